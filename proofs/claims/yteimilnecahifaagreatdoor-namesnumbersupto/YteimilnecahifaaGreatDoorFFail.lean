/- echo, basename, dirname, true, false: what they do with their task. -/
import Derived.Lib.ConvBytes
import Derived.Test.YteimilnecahifaaGreatDoorNTell
import Derived.Test.YteimilnecahifaaGreatDoorShelf4
import Derived.Test.YteimilnecahifaaGreatDoorNJob
import Derived.Test.YteimilnecahifaaGreatDoorNDir
import Derived.Test.YteimilnecahifaaGreatDoorShelf6
import Derived.Deep.Cut
import Derived.Deep.RegionHeld3
import Derived.Test.YteimilnecahifaaGreatDoorFLet
import Derived.Test.YteimilnecahifaaGreatDoorFRd
namespace Go.Proofs.YteimilnecahifaaGreatDoor
open Go.RowKit Go.Shelf Go.Maps

theorem conv_sbn (s : ByteArray) (w : World) : (convert 9 27 (.string s)).run Tryz.prog w = .ok (.slice (some ⟨w.heap.size, 0, none⟩) s.size (grownCap w s.size 0 5)) (Lib.bytesWorld w 5 s) :=
  Lib.run_convert_string_bytes w 9 27 5 s Tryz.underlying9 Tryz.underlying27 Tryz.underlying5
theorem by_convn (s : ByteArray) (w : World) (hs : s.size ≤ 4194304) : ByAt (Lib.bytesWorld w 5 s) (.slice (some ⟨w.heap.size, 0, none⟩) s.size (grownCap w s.size 0 5)) s.data.toList := by
  refine .inr ⟨w.heap.size, 0, _, rfl, ⟨grownCap_ge w s.size 0 _, ?_⟩, by rw [Lib.bytesWorld_size]; omega, fun j hj => ?_⟩
  · have := grownCap_le_maxLen w s.size 0 5 (by unfold maxLen; omega)
    unfold maxLen at this; exact this
  · rw [Nat.zero_add, Lib.bytesWorld_cell w 5 s j hj]; rfl
theorem below_bwn (B : Nat) (w : World) (e : TypeId) (s : ByteArray) (h : B ≤ w.heap.size) : Below B w (Lib.bytesWorld w e s) :=
  ⟨rfl, rfl, rfl, by rw [Lib.bytesWorld_size]; omega, fun k hk => Lib.bytesWorld_at_old w e s k (by omega)⟩
/-- What a utility tells, and how it ends. -/
def QN (out : List UInt8) (st : Int) (st' : Int) (s2 : Sx) : Prop := st' = st ∧ s2.k.out = out ∧ s2.k.err = []
theorem wrote_out {l : List (Int × Int)} {s s' : Sx} {bs : List UInt8} (h : Wrote l s s' false bs) (h0 : s.k.out = []) (h1 : s.k.err = []) : s'.k.out = bs ∧ s'.k.err = [] := by
  obtain ⟨u, e, _⟩ := h.k
  rw [e]
  simp [KC.told, h0, h1]
theorem join_eq : ∀ (l : List ByteArray), Lib.join (l.map (·.data.toList)) [32] = Nm.joinS l
  | [] => rfl
  | [a] => by simp [Lib.join, Nm.joinS]
  | a :: b :: l => by
    have := join_eq (b :: l)
    simp only [List.map_cons, Lib.join] at this
    simp only [List.map_cons, Lib.join, Nm.joinS]
    rw [← this]
    simp
section
variable {E : Ev} {md : Option Bool} {w : World} {ins : List UInt8}
/-- What a Do is to leave. -/
def DoN (E : Ev) (md : Option Bool) (Q : Int → Sx → Prop) (w : World) (tk : Nat) (e : Ending) (w2 : World) : Prop :=
  (e = .panicked waitsP ∧ UmOut E md [] Q w (.panicked waitsP) w2) ∨ (∃ v st, e = .returned v ∧ w2.cell? ⟨tk, 3, none⟩ = some (.int .i64 st) ∧ UmOut E md [] Q w (.returned (.int .i64 st)) w2)
/-- A text is told, as bytes that were just laid down: nothing else is done behind. -/
theorem tell_do (hp : PS E md w (s0 ins) []) {tk : Nat} {lv ov : Value} {w1 w2 : World} (bs : List UInt8) (hbs : bs ≠ []) (hc0 : E.c0 = .write false bs) (hfl : E.G.faults.length ≤ 1048576) (hlen : bs.length ≤ 2097153) (h1 : w.heap.size ≤ tk) (h4 : tk < w1.heap.size) (ht : TkN w1 tk E.G.p lv ov 0 false 1 false) (hB : Below w.heap.size w w1) (hB2 : Below w1.heap.size w1 w2) :
    Calls Tryz.prog 121 #[ptr tk, .slice (some ⟨w2.heap.size, 0, none⟩) bs.length (grownCap w2 bs.length 0 5)] (Lib.bytesWorld w2 5 (Nm.bz bs)) fun e w' => (e = .panicked waitsP ∧ UmOut E md [] (QN bs 0) w (.panicked waitsP) w') ∨ (e = .returned (.bool true) ∧ w'.cell? ⟨tk, 3, none⟩ = some (.int .i64 0) ∧ UmOut E md [] (QN bs 0) w (.returned (.int .i64 0)) w') := by
  have hz : (Nm.bz bs).size = bs.length := by simp [Nm.bz, ByteArray.size]
  have hBb : Below w2.heap.size w2 (Lib.bytesWorld w2 5 (Nm.bz bs)) := below_bwn _ _ _ _ (Nat.le_refl _)
  have hB3 : Below w1.heap.size w1 (Lib.bytesWorld w2 5 (Nm.bz bs)) := hB2.trans (hBb.mono hB2.size)
  have hB13 : Below w.heap.size w (Lib.bytesWorld w2 5 (Nm.bz bs)) := hB.trans (hB3.mono hB.size)
  have hby := by_convn (Nm.bz bs) w2 (by omega)
  rw [hz] at hby
  have hlt : w2.heap.size < (Lib.bytesWorld w2 5 (Nm.bz bs)).heap.size := by rw [Lib.bytesWorld_size]; omega
  have ht3 : TkN (Lib.bytesWorld w2 5 (Nm.bz bs)) tk E.G.p lv ov 0 false 1 false := (hB3.block tk h4).trans ht
  generalize Lib.bytesWorld w2 5 (Nm.bz bs) = w3 at hBb hB3 hB13 hby hlt ht3 ⊢
  have hs3 := hB3.size
  have hs2 := hB2.size
  have hs1 := hB.size
  have hp3 : PS E md w3 (s0 ins) [w2.heap.size, tk] := hp.own (Turn.below (S := []) hB13) (by simp) (fun b hb => by
    simp only [List.mem_cons, List.not_mem_nil, or_false] at hb
    omega)
  refine (tktell_c hp3 ht3 _ bs hby (fun b off n c e => by cases e; simp) (by omega) (by show 0 ≤ _; omega) ⟨by show 0 + _ ≤ _; omega, by show 0 + _ ≤ _; omega⟩ (by show (0 : Int) + _ + _ < _; omega) (fun _ _ => hc0)).mono ?_
  rintro e w4 (⟨hmd, rfl, hW⟩ | ⟨rfl, md', s', _, h7, h8, h9, hk, hn⟩)
  · refine .inl ⟨rfl, .inl ⟨hmd, rfl, ?_⟩⟩
    obtain ⟨q1, q2, q3, q4⟩ := hW
    exact ⟨q1, q2, q3, (Kept.below hB13).trans (Kept.less ⟨_, q4.choose_spec.1, q4.choose_spec.2⟩ (by simp))⟩
  · have e7 := h7 hbs
    subst e7
    have hmn : md ≠ none := by
      rcases hn with e | e
      · rw [← e]; simp
      · exact e
    have h3 := hk.ob ht3 (by simp)
    obtain ⟨o1, o2⟩ := wrote_out h8 rfl rfl
    refine .inr ⟨rfl, h_cell h3 3 rfl, .inr ⟨hmn, 0, s', rfl, h9.own (Turn.refl [] w4) (by simp) (by simp), (Kept.below hB13).trans (hk.less (by simp)), rfl, o1, o2⟩⟩
set_option maxRecDepth 100000 in
set_option maxHeartbeats 4000000 in
/-- A line is told: nothing else is done. -/
theorem line_do (hp : PS E md w (s0 ins) []) {tk : Nat} {lv ov : Value} {w1 w2 : World} (L : List UInt8) (hc0 : E.c0 = .write false (L ++ [10])) (hfl : E.G.faults.length ≤ 1048576) (hlen : L.length ≤ 2097152) (h1 : w.heap.size ≤ tk) (h4 : tk < w1.heap.size) (ht : TkN w1 tk E.G.p lv ov 0 false 1 false) (hB : Below w.heap.size w w1) (hB2 : Below w1.heap.size w1 w2) :
    Calls Tryz.prog 115 #[ptr tk, .string (Nm.bz L)] w2 (DoN E md (QN (L ++ [10]) 0) w tk) := by
  have hcat : Nm.bz L ++ ⟨#[10]⟩ = Nm.bz (L ++ [10]) := by
    apply ByteArray.ext
    simp [Nm.bz]
  have hsz : (Nm.bz L).size = L.length := by simp [Nm.bz, ByteArray.size]
  have hs8 : (Nm.bz (L ++ [10])).size = L.length + 1 := by simp [Nm.bz, ByteArray.size]
  have hcv := conv_sbn
  have el : (L ++ [10]).length = L.length + 1 := by simp
  have htl := tell_do hp (L ++ [10]) (by simp) hc0 hfl (by omega) h1 h4 ht hB hB2
  rw [el] at htl
  clear el hp hc0 ht hB hB2 h1 h4
  go_enter Tryz.func115, Tryz.ntmps115
  go_wp2_with (go_at_call 121; refine htl.mono ?_; rintro e w3 (⟨rfl, hU⟩ | ⟨rfl, h3, hU⟩); (· exact ⟨rfl, .inl ⟨rfl, hU⟩⟩))
  go_end0
  exact .inr ⟨_, 0, rfl, h3, hU⟩
set_option maxRecDepth 100000 in
set_option maxHeartbeats 4000000 in
theorem echo_do (hp : PS E md w (s0 ins) []) {tk : Nat} {lv ov : Value} {w1 : World} (ops : List ByteArray) (hc0 : E.c0 = .write false (Nm.joinS ops ++ [10])) (hfl : E.G.faults.length ≤ 1048576) (hlen : (Nm.joinS ops).length ≤ 2097152) (hn : ops.length ≤ 1048576) (h1 : w.heap.size ≤ tk) (h4 : tk < w1.heap.size) (ht : TkN w1 tk E.G.p lv ov 0 false 1 false) (hS : Op.StrsAt w1 ov ops) (hB : Below w.heap.size w w1) :
    Calls Tryz.prog 86 #[ptr tk] w1 (DoN E md (QN (Nm.joinS ops ++ [10]) 0) w tk) := by
  have t2 : w1.cell? ⟨tk, 2, none⟩ = some ov := h_cell ht 2 rfl
  have hj : Calls Tryz.prog 116 #[ov, .string ⟨#[32]⟩] w1 fun e w' => e = .returned (.string (Nm.bz (Nm.joinS ops))) ∧ Below w1.heap.size w1 w' := by
    rcases hS with ⟨rfl, rfl⟩ | ⟨b, off, cap, rfl, hcap, hb, hc⟩
    · refine (Tryz.strings_Join_none none 0 ⟨#[32]⟩ w1).mono ?_
      rintro e w' ⟨rfl, rfl⟩
      exact ⟨rfl, Below.refl _ _⟩
    · have := Tryz.strings_Join b off cap ops ⟨#[32]⟩ w1 (fun j x hx => by
        have hj := (List.getElem?_eq_some_iff.1 hx).1
        rw [hc j hj]
        simp [Op.nth, hx]) hb (by omega) hcap.1 (by rw [show (⟨#[32]⟩ : ByteArray).data.toList = [32] from rfl, join_eq]; omega)
      rw [show (⟨#[32]⟩ : ByteArray).data.toList = [32] from rfl, join_eq] at this
      exact this
  obtain ⟨xa, na, ca, rfl⟩ : ∃ a n c, ov = .slice a n c := by
    rcases hS with ⟨rfl, _⟩ | ⟨b, off, cap, rfl, _⟩ <;> exact ⟨_, _, _, rfl⟩
  have htl0 := fun w2 (hB2 : Below w1.heap.size w1 w2) => line_do hp (Nm.joinS ops) hc0 hfl hlen h1 h4 ht hB hB2
  have hlt := h_lt ht
  clear hp hc0 ht hB hS hlen
  generalize Nm.joinS ops = L at hj htl0 ⊢
  go_enter Tryz.func86, Tryz.ntmps86
  go_wp2_with (first
    | (go_at_call 116; refine hj.mono ?_; rintro e w2 ⟨rfl, hB2⟩; have htl := htl0 w2 hB2; clear hj hB2 htl0)
    | (go_at_call 115; refine htl.mono ?_; rintro e w3 (⟨rfl, hU⟩ | ⟨v, st, rfl, h3, hU⟩); (· exact ⟨rfl, .inl ⟨rfl, hU⟩⟩)))
  go_end0
  exact .inr ⟨_, st, rfl, h3, hU⟩
/-- Two operands in memory. -/
theorem ops_two {w1 : World} {ov : Value} {a b : ByteArray} (h : Op.StrsAt w1 ov [a, b]) : ∃ g off cap, ov = .slice (some ⟨g, off, none⟩) 2 cap ∧ w1.cell? ⟨g, off, none⟩ = some (.string a) ∧ w1.cell? ⟨g, off + 1, none⟩ = some (.string b) := by
  rcases h with ⟨_, h⟩ | ⟨g, off, cap, rfl, hcap, hb, hc⟩
  · cases h
  · exact ⟨g, off, cap, rfl, by simpa [Op.nth] using hc 0 (by simp), by simpa [Op.nth] using hc 1 (by simp)⟩
theorem ops_one {w1 : World} {ov : Value} {a : ByteArray} (h : Op.StrsAt w1 ov [a]) : ∃ g off cap, ov = .slice (some ⟨g, off, none⟩) 1 cap ∧ w1.cell? ⟨g, off, none⟩ = some (.string a) := by
  rcases h with ⟨_, h⟩ | ⟨g, off, cap, rfl, hcap, hb, hc⟩
  · cases h
  · exact ⟨g, off, cap, rfl, by simpa [Op.nth] using hc 0 (by simp)⟩
set_option maxRecDepth 100000 in
set_option maxHeartbeats 4000000 in
theorem base_do (hp : PS E md w (s0 ins) []) {tk : Nat} {lv ov : Value} {w1 : World} (a b : ByteArray) (hc0 : E.c0 = .write false (Nm.baseS a.data.toList b.data.toList ++ [10])) (hfl : E.G.faults.length ≤ 1048576) (hlen : (Nm.baseS a.data.toList b.data.toList).length ≤ 2097152) (ha : a.size ≤ 2097152) (h1 : w.heap.size ≤ tk) (h4 : tk < w1.heap.size) (ht : TkN w1 tk E.G.p lv ov 0 false 1 false) (hS : Op.StrsAt w1 ov [a, b]) (hB : Below w.heap.size w w1) :
    Calls Tryz.prog 84 #[ptr tk] w1 (DoN E md (QN (Nm.baseS a.data.toList b.data.toList ++ [10]) 0) w tk) := by
  obtain ⟨g, off, cap, rfl, c0, c1⟩ := ops_two hS
  have t2 : w1.cell? ⟨tk, 2, none⟩ = some (.slice (some ⟨g, off, none⟩) 2 cap) := h_cell ht 2 rfl
  have t2d : w1.drew.cell? ⟨tk, 2, none⟩ = some (.slice (some ⟨g, off, none⟩) 2 cap) := t2
  have c0d : w1.drew.cell? ⟨g, off, none⟩ = some (.string a) := c0
  have c1d : w1.drew.cell? ⟨g, off + 1, none⟩ = some (.string b) := c1
  have hbs := Nm.base_c a b w1.drew ha
  have hd : Below w1.heap.size w1 w1.drew := ⟨rfl, rfl, rfl, Nat.le_refl _, fun _ _ => rfl⟩
  have htl0 := fun w2 (hB2 : Below w1.heap.size w1 w2) => line_do hp (Nm.baseS a.data.toList b.data.toList) hc0 hfl hlen h1 h4 ht hB hB2
  have hlt := h_lt ht
  have HD := Lib.hid hd
  clear hp hc0 ht hB hS hlen hd
  generalize Nm.baseS a.data.toList b.data.toList = L at hbs htl0 ⊢
  go_enter Tryz.func84, Tryz.ntmps84
  go_upto_region 5 with fail
  refine Re.wp_region_tail 14 (fun w' => w'.cell? ⟨tk, 2, none⟩ = some (.slice (some ⟨g, off, none⟩) 2 cap) ∧ w'.cell? ⟨g, off, none⟩ = some (.string a) ∧ w'.cell? ⟨g, off + 1, none⟩ = some (.string b)) (by kernel_rfl) ⟨t2d, c0d, c1d⟩ (fun hHeld => ?_)
  repeat
    first
      | (refine Re.wpAnyT_take (i := 0) (v := ?_) 9 rfl (by decide +kernel) (fun _ _ _ h => h) (Or.inl ⟨by rfl, fun u hu => ?_⟩) (by assumption) ?_; rotate_left; focus ((try dsimp only at hu); go_simp; try with_reducible rfl))
      | (refine Re.wpAnyT_take (i := 1) (v := ?_) 9 rfl (by decide +kernel) (fun _ _ _ h => h) (Or.inl ⟨by rfl, fun u hu => ?_⟩) (by assumption) ?_; rotate_left; focus ((try dsimp only at hu); go_simp; try with_reducible rfl))
      | (refine Re.wpAnyT_take (i := 2) (v := ?_) 9 rfl (by decide +kernel) (fun _ _ _ h => h) (Or.inl ⟨by rfl, fun u hu => ?_⟩) (by assumption) ?_; rotate_left; focus ((try dsimp only at hu); go_simp; try with_reducible rfl))
      | (refine Re.wpAnyT_take (i := 3) (v := ?_) 9 rfl (by decide +kernel) (fun _ _ _ h => h) (Or.inl ⟨by rfl, fun u hu => ?_⟩) (by assumption) ?_; rotate_left; focus ((try dsimp only at hu); go_simp; try with_reducible rfl))
      | (refine Re.wpAnyT_take (i := 4) (v := ?_) 9 rfl (by decide +kernel) (fun _ _ _ h => h) (Or.inl ⟨by rfl, fun u hu => ?_⟩) (by assumption) ?_; rotate_left; focus ((try dsimp only at hu); go_simp; try with_reducible rfl))
      | (refine Re.wpAnyT_take (i := 5) (v := ?_) 9 rfl (by decide +kernel) (fun _ _ _ h => h) (Or.inl ⟨by rfl, fun u hu => ?_⟩) (by assumption) ?_; rotate_left; focus ((try dsimp only at hu); go_simp; try with_reducible rfl))
      | (refine Re.wpAnyT_take (i := 6) (v := ?_) 9 rfl (by decide +kernel) (fun _ _ _ h => h) (Or.inl ⟨by rfl, fun u hu => ?_⟩) (by assumption) ?_; rotate_left; focus ((try dsimp only at hu); go_simp; try with_reducible rfl))
      | (refine Re.wpAnyT_take (i := 7) (v := ?_) 9 rfl (by decide +kernel) (fun _ _ _ h => h) (Or.inl ⟨by rfl, fun u hu => ?_⟩) (by assumption) ?_; rotate_left; focus ((try dsimp only at hu); go_simp; try with_reducible rfl))
      | (refine Re.wpAnyT_take (i := 8) (v := ?_) 9 rfl (by decide +kernel) (fun _ _ _ h => h) (Or.inl ⟨by rfl, fun u hu => ?_⟩) (by assumption) ?_; rotate_left; focus ((try dsimp only at hu); go_simp; try with_reducible rfl))
      | (refine Re.wpAnyT_take (i := 9) (v := ?_) 9 rfl (by decide +kernel) (fun _ _ _ h => h) (Or.inl ⟨by rfl, fun u hu => ?_⟩) (by assumption) ?_; rotate_left; focus ((try dsimp only at hu); go_simp; try with_reducible rfl))
      | (refine Re.wpAnyT_take (i := 10) (v := ?_) 9 rfl (by decide +kernel) (fun _ _ _ h => h) (Or.inl ⟨by rfl, fun u hu => ?_⟩) (by assumption) ?_; rotate_left; focus ((try dsimp only at hu); go_simp; try with_reducible rfl))
      | (refine Re.wpAnyT_take (i := 11) (v := ?_) 9 rfl (by decide +kernel) (fun _ _ _ h => h) (Or.inl ⟨by rfl, fun u hu => ?_⟩) (by assumption) ?_; rotate_left; focus ((try dsimp only at hu); go_simp; try with_reducible rfl))
      | (refine Re.wpAnyT_take (i := 12) (v := ?_) 9 rfl (by decide +kernel) (fun _ _ _ h => h) (Or.inl ⟨by rfl, fun u hu => ?_⟩) (by assumption) ?_; rotate_left; focus ((try dsimp only at hu); go_simp; try with_reducible rfl))
    simp only [Act.put, List.setIfInBounds_toArray, List.set_cons_zero, List.set_cons_succ]
  refine Re.wpAnyT_one (i := 13) rfl (by kernel_rfl) (fun K hK => ?_)
  go_simp
  go_at_call 8
  refine hbs.mono ?_
  rintro e w2 ⟨rfl, hB2⟩
  have HK2 : Hid (w2.cell? ⟨tk, 2, none⟩ = some (.slice (some ⟨g, off, none⟩) 2 cap) ∧ w2.cell? ⟨g, off, none⟩ = some (.string a) ∧ w2.cell? ⟨g, off + 1, none⟩ = some (.string b)) := Lib.hid ⟨(hB2.cell (p := ⟨tk, 2, none⟩) (World.block_lt_of_cell? _ _ t2d)).trans t2d, (hB2.cell (p := ⟨g, off, none⟩) (World.block_lt_of_cell? _ _ c0d)).trans c0d, (hB2.cell (p := ⟨g, off + 1, none⟩) (World.block_lt_of_cell? _ _ c1d)).trans c1d⟩
  have htl := htl0 w2 (HD.out.trans hB2)
  clear hbs hB2 htl0
  refine hK.out _ _ (fun _ => HK2.out) ?_
  clear hK K
  refine Re.wpAnyT_one (i := 14) rfl (by kernel_rfl) (fun K hK => ?_)
  go_simp
  go_at_call 115
  refine htl.mono ?_
  rintro e w3 (⟨rfl, hU⟩ | ⟨v, st, rfl, h3, hU⟩)
  · exact ⟨rfl, .inl ⟨rfl, hU⟩⟩
  refine hK.out _ _ (fun hne => absurd rfl hne) ?_
  clear hK K
  refine Re.wpAnyT_done (by kernel_rfl) ?_ _
  go_wp2_with fail
  go_end0
  exact .inr ⟨_, st, rfl, h3, hU⟩
set_option maxRecDepth 100000 in
set_option maxHeartbeats 4000000 in
theorem dir_do (hp : PS E md w (s0 ins) []) {tk : Nat} {lv ov : Value} {w1 : World} (a : ByteArray) (hc0 : E.c0 = .write false (Nm.dirS a.data.toList ++ [10])) (hfl : E.G.faults.length ≤ 1048576) (hlen : (Nm.dirS a.data.toList).length ≤ 2097152) (ha : a.size ≤ 2097152) (h1 : w.heap.size ≤ tk) (h4 : tk < w1.heap.size) (ht : TkN w1 tk E.G.p lv ov 0 false 1 false) (hS : Op.StrsAt w1 ov [a]) (hB : Below w.heap.size w w1) :
    Calls Tryz.prog 85 #[ptr tk] w1 (DoN E md (QN (Nm.dirS a.data.toList ++ [10]) 0) w tk) := by
  obtain ⟨g, off, cap, rfl, c0⟩ := ops_one hS
  have t2 : w1.cell? ⟨tk, 2, none⟩ = some (.slice (some ⟨g, off, none⟩) 1 cap) := h_cell ht 2 rfl
  have hbs := Nm.dir_c a w1 ha
  have htl0 := fun w2 (hB2 : Below w1.heap.size w1 w2) => line_do hp (Nm.dirS a.data.toList) hc0 hfl hlen h1 h4 ht hB hB2
  have hlt := h_lt ht
  clear hp hc0 ht hB hS hlen
  generalize Nm.dirS a.data.toList = L at hbs htl0 ⊢
  go_enter Tryz.func85, Tryz.ntmps85
  go_wp2_with (first
    | (go_at_call 7; refine hbs.mono ?_; rintro e w2 ⟨rfl, hB2⟩; have htl := htl0 w2 hB2; clear hbs hB2 htl0)
    | (go_at_call 115; refine htl.mono ?_; rintro e w3 (⟨rfl, hU⟩ | ⟨v, st, rfl, h3, hU⟩); (· exact ⟨rfl, .inl ⟨rfl, hU⟩⟩)))
  go_end0
  exact .inr ⟨_, st, rfl, h3, hU⟩
/-- true and false. -/
theorem succeeds_c {w1 : World} {tk : Nat} : Calls Tryz.prog 89 #[ptr tk] w1 fun e w2 => (∃ v, e = .returned v) ∧ w2 = w1 := by
  go_enter Tryz.func89, Tryz.ntmps89
  go_wp2
  go_end0
  exact ⟨⟨_, rfl⟩, rfl⟩
theorem fails_c {w1 : World} {tk p : Nat} {lv ov : Value} {fa : Int} {sl he : Bool} (ht : TkN w1 tk p lv ov 0 sl fa he) : Calls Tryz.prog 87 #[ptr tk] w1 fun e w2 => (∃ v, e = .returned v) ∧ w2 = w1.setCell ⟨tk, 3, none⟩ (.int .i64 1) := by
  have c3 := h_cell ht 3 rfl
  have z3 := h_fz ht 3
  have hlt := h_lt ht
  clear ht
  go_enter Tryz.func87, Tryz.ntmps87
  go_wp2
  go_end0
  exact ⟨⟨_, rfl⟩, rfl⟩
end
end Go.Proofs.YteimilnecahifaaGreatDoor

namespace Go.Proofs.YteimilnecahifaaGreatDoor
open Go.RowKit Go.Shelf Go.Maps

/-- A line of an error. -/
def sayL (nm op wd : List UInt8) : List UInt8 := nm ++ [58, 32] ++ (if op = [] then [] else op ++ [58, 32]) ++ wd ++ [10]
theorem bzn_app (a b : List UInt8) : Nm.bz a ++ Nm.bz b = Nm.bz (a ++ b) := by
  apply ByteArray.ext
  simp [Nm.bz]
theorem bzn_size (l : List UInt8) : (Nm.bz l).size = l.length := by simp [Nm.bz, ByteArray.size]
theorem word_c (k : Nat) (hk : k < 27) (s : ByteArray) (w : World) (h : w.cell? ⟨6, k, none⟩ = some (.string s)) : Calls Tryz.prog 219 #[.int .i64 (k : Int)] w fun e w' => e = .returned (.string s) ∧ w' = w := by
  have h1 : ¬ (27 : Int) ≤ (k : Int) := by omega
  have h2 : (k : Int) < 27 := by omega
  go_enter Tryz.func219, Tryz.ntmps219
  go_wp2
  go_ret
  exact ⟨rfl, rfl⟩
theorem beq_nil_bz {op : List UInt8} (h : op ≠ []) : (Nm.bz op).toList.isEmpty = false := by
  rw [show (Nm.bz op).toList = op from by rw [ByteArray.toList_eq]; rfl]
  cases op with
  | nil => exact absurd rfl h
  | cons a b => rfl
set_option maxHeartbeats 2000000 in
theorem diag_n (nm op wd : List UInt8) (k : Nat) (hk : k < 27) (w : World) (hw : w.cell? ⟨6, k, none⟩ = some (.string (Nm.bz wd))) (h1 : nm.length ≤ 4096) (h2 : op.length ≤ 2097152) (h3 : wd.length ≤ 32) :
    Calls Tryz.prog 190 #[.string (Nm.bz nm), .string (Nm.bz op), .int .i64 (k : Int)] w fun r w' => r = .returned (.slice (some ⟨w.heap.size, 0, none⟩) (sayL nm op wd).length (grownCap w (sayL nm op wd).length 0 5)) ∧ w' = Lib.bytesWorld w 5 (Nm.bz (sayL nm op wd)) := by
  have hwd := word_c k hk (Nm.bz wd) w hw
  have hcv := conv_sbn
  have z1 := bzn_size nm
  have z2 := bzn_size op
  have z3 := bzn_size wd
  have z4 := bzn_size (sayL nm op wd)
  clear hw
  by_cases h0 : op = []
  · subst h0
    have hcat : Nm.bz nm ++ ⟨#[58, 32]⟩ ++ Nm.bz wd ++ ⟨#[10]⟩ = Nm.bz (sayL nm [] wd) := by
      rw [show (⟨#[58, 32]⟩ : ByteArray) = Nm.bz [58, 32] from rfl, show (⟨#[10]⟩ : ByteArray) = Nm.bz [10] from rfl, bzn_app, bzn_app, bzn_app]
      simp [sayL]
    rw [show Nm.bz [] = ⟨#[]⟩ from rfl]
    go_enter Tryz.func190, Tryz.ntmps190
    go_wp2_with (go_at_call 219; refine hwd.mono ?_; rintro e w' ⟨rfl, hw'⟩; rw [hw']; clear hw')
    go_ret
    exact ⟨rfl, rfl⟩
  · have q0 := beq_nil_bz h0
    have hcat : Nm.bz nm ++ ⟨#[58, 32]⟩ ++ (Nm.bz op ++ ⟨#[58, 32]⟩) ++ Nm.bz wd ++ ⟨#[10]⟩ = Nm.bz (sayL nm op wd) := by
      rw [show (⟨#[58, 32]⟩ : ByteArray) = Nm.bz [58, 32] from rfl, show (⟨#[10]⟩ : ByteArray) = Nm.bz [10] from rfl, bzn_app, bzn_app, bzn_app, bzn_app, bzn_app]
      simp [sayL, h0]
    clear h0
    go_enter Tryz.func190, Tryz.ntmps190
    go_wp2_with (go_at_call 219; refine hwd.mono ?_; rintro e w' ⟨rfl, hw'⟩; rw [hw']; clear hw')
    go_ret
    exact ⟨rfl, rfl⟩
section
variable {E : Ev} {md : Option Bool} {w : World} {s : Sx} {M : List Nat} {nm : ByteArray} {sa : List ByteArray}
theorem nameOf_n {p kn tb kin : Nat} {args env box runs : Value} {cwd : ByteArray} {l1 l2 l3 held peak : Int} {isChild : Bool} (hp : PrAt w p kn tb args env cwd l1 l2 l3 held peak box kin isChild runs) (hl : (nm :: sa).length ≤ 1048576) (hA : w.ownsRow 0 9 1 args (nm :: sa).length ((nm :: sa).map .string)) :
    Calls Tryz.prog 191 #[ptr p] w fun e w' => e = .returned (.string nm) ∧ Below w.heap.size w w' := by
  have hargs := args_p hp (nm :: sa) hl hA
  clear hp hA
  go_enter Tryz.func191, Tryz.ntmps191
  go_wp2_with (go_at_call 81; refine hargs.mono ?_; rintro e w1 ⟨av, rfl, ho1, hB1⟩; obtain ⟨ab, ac, acur, rfl, hab, hag, _⟩ := row_shape ho1 (by simp); have a0 : w1.cell? ⟨ab, 0, none⟩ = some (.string nm) := Op.own_cell2 ho1 0 (by simp); have HB1 := Lib.hid hB1; clear hargs hB1 ho1 hag hab)
  go_ret
  exact ⟨rfl, HB1.out⟩
/-- What saying comes to. -/
def SaidOut (E : Ev) (md : Option Bool) (s : Sx) (M : List Nat) (bs : List UInt8) (w : World) (e : Ending) (w' : World) : Prop :=
  Waits md E M e w w' ∨ ((∃ v, e = .returned v) ∧ ∃ s', Wrote E.G.faults s s' true bs ∧ PS E (some false) w' s' M ∧ Kept M w w' ∧ md ≠ none)
set_option maxRecDepth 100000 in
set_option maxHeartbeats 4000000 in
theorem say_n {nmL : List UInt8} (h : PS E md w s M) (hA : w.ownsRow 0 9 1 E.G.args (Nm.bz nmL :: sa).length ((Nm.bz nmL :: sa).map .string)) (hl : (Nm.bz nmL :: sa).length ≤ 1048576) (op wd : List UInt8) (k : Nat) (hk : k < 27) (hw : w.cell? ⟨6, k, none⟩ = some (.string (Nm.bz wd))) (h1 : nmL.length ≤ 4096) (h2 : op.length ≤ 2097152) (h3 : wd.length ≤ 32) (hu : s.k.used ≤ E.G.faults.length) (hO : s.k.out.length ≤ 274877906944 ∧ s.k.err.length ≤ 274877906944) (hst : s.steps + E.G.faults.length ≤ 2305843009213693951) (hc : md ≠ some false → E.c0 = .write true (sayL nmL op wd)) :
    Calls Tryz.prog 155 #[ptr E.G.p, .string (Nm.bz op), .int .i64 (k : Int)] w (SaidOut E md s M (sayL nmL op wd) w) := by
  obtain ⟨held, peak, hpr⟩ : ∃ held peak, PrAt w E.G.p E.G.kn E.G.tb E.G.args E.G.env E.G.cwd E.G.l1 E.G.l2 E.G.l3 held peak E.G.box E.G.kin E.G.isChild (ptr E.G.m) := by
    obtain ⟨rv, v1, v2, hp, _⟩ := h.ex
    cases md with
    | none => exact ⟨0, 0, hp.1.pr⟩
    | some f => exact ⟨_, _, PB.pr hp⟩
  have hnm := nameOf_n hpr hl hA
  have hws : 6 < w.heap.size := World.block_lt_of_cell? _ _ hw
  have hdl : (sayL nmL op wd).length ≤ 2110000 := by
    unfold sayL
    simp only [List.length_append, List.length_cons, List.length_nil]
    split
    · simp; omega
    · simp; omega
  have hne : sayL nmL op wd ≠ [] := by simp [sayL]
  have hdg := fun u (hu : Below w.heap.size w u) => diag_n nmL op wd k hk u ((hu.cell (p := ⟨6, k, none⟩) hws).trans hw) h1 h2 h3
  have HH := Lib.hid (And.intro h hc)
  clear h hpr hA hw hc
  generalize hLd : sayL nmL op wd = D at hdl hne hdg HH ⊢
  clear hLd
  have hwr : ∀ u, Below w.heap.size w u → Calls Tryz.prog 189 #[ptr E.G.p, .int .i64 2, .slice (some ⟨u.heap.size, 0, none⟩) D.length (grownCap u D.length 0 5)] (Lib.bytesWorld u 5 (Nm.bz D)) (fun e w' => (md = none ∧ e = .panicked waitsP ∧ Waits md E M (.panicked waitsP) w w') ∨ (e = .returned (.int .i64 0) ∧ ∃ s', Wrote E.G.faults s s' true D ∧ PS E (some false) w' s' M ∧ Kept M w w' ∧ md ≠ none)) := fun u hB => by
    have hBb : Below u.heap.size u (Lib.bytesWorld u 5 (Nm.bz D)) := below_bwn _ _ _ _ (Nat.le_refl _)
    have hB3 : Below w.heap.size w (Lib.bytesWorld u 5 (Nm.bz D)) := hB.trans (hBb.mono hB.size)
    have hby := by_convn (Nm.bz D) u (by rw [bzn_size]; omega)
    rw [bzn_size] at hby
    have hlt : u.heap.size < (Lib.bytesWorld u 5 (Nm.bz D)).heap.size := by rw [Lib.bytesWorld_size]; omega
    generalize Lib.bytesWorld u 5 (Nm.bz D) = u3 at hBb hB3 hby hlt ⊢
    have hp3 : PS E md u3 s (u.heap.size :: M) := HH.out.1.own (Turn.below (S := []) hB3) (by simp) (fun b hb => by
      rcases List.mem_cons.1 hb with rfl | hb
      · exact .inr ⟨hB.size, hlt⟩
      · exact .inl hb)
    refine (swrite_n hp3 true _ D hby (fun b off n c e => by cases e; simp) (by omega) hu ⟨by omega, by omega⟩ (by omega) (fun _ e => HH.out.2 e)).mono ?_
    rintro e u4 (⟨hmd, rfl, q1, q2, q3, q4⟩ | ⟨rfl, md', s', _, h8, h9, h10, hk4, hn⟩)
    · exact .inl ⟨hmd, rfl, hmd, rfl, q1, q2, q3, (Kept.below hB3).trans (Kept.less ⟨_, q4.choose_spec.1, q4.choose_spec.2⟩ (fun x hx => List.mem_cons_of_mem _ hx))⟩
    · have e8 := h8 hne
      subst e8
      refine .inr ⟨rfl, s', h9, h10.own (Turn.refl [] u4) (by simp) (fun b hb => .inl (List.mem_cons_of_mem _ hb)), (Kept.below hB3).trans (hk4.less (fun x hx => List.mem_cons_of_mem _ hx)), ?_⟩
      rcases hn with e | e
      · rw [← e]; simp
      · exact e
  clear HH
  go_enter Tryz.func155, Tryz.ntmps155
  go_wp2_with (first
    | (go_at_call 191; refine hnm.mono ?_; rintro e w1 ⟨rfl, hB1⟩; have hd1 := hdg w1 hB1; have hw1 := hwr w1 hB1; clear hnm hB1 hdg hwr)
    | (go_at_call 190; refine hd1.mono ?_; rintro e w2 ⟨rfl, hw2⟩; rw [hw2]; clear hd1 hw2)
    | (go_at_call 189; refine hw1.mono ?_; rintro e w3 (⟨hmd, rfl, hW⟩ | ⟨rfl, s', h4, h5, h6, h7⟩); (· exact ⟨rfl, .inl hW⟩)))
  go_end0
  exact .inr ⟨⟨_, rfl⟩, s', h4, h5, h6, h7⟩
end
end Go.Proofs.YteimilnecahifaaGreatDoor

namespace Go.Proofs.YteimilnecahifaaGreatDoor
open Go.RowKit Go.Shelf Go.Maps

/-- None of the machine's types. -/
def NoT (T : Nat) : Prop := T ≠ 88 ∧ T ≠ 98 ∧ T ≠ 129 ∧ T ≠ 138 ∧ T ≠ 141 ∧ T ≠ 5
theorem PS.more {E : Ev} {f : Bool} {w : World} {s : Sx} {M : List Nat} (h : PS E (some f) w s M) {b T : Nat} {cs : Array Value} {fz : Nat × Nat} (hb : w.heap[b]? = some (.cells cs T fz)) (hT : NoT T) : PS E (some f) w s (b :: M) := by
  obtain ⟨rv, v1, v2, hp, h1, h2, h3⟩ := h.ex
  refine ⟨⟨rv, v1, v2, hp, fun c hc => ?_, h2, h3⟩, h.since, h.first, h.zero, h.nn, h.fit, h.st⟩
  rcases List.mem_cons.1 hc with rfl | hc
  · refine ⟨h_lt hb, fun hm => ?_⟩
    have hp' : PB E.G w f s.k s.held s.peak (s.steps + if f then 1 else 0) rv v1 v2 := hp
    obtain ⟨ka, hk, _⟩ := hp'.act
    obtain ⟨n1, n2, n3, n4, n5, n6⟩ := hT
    have hrow : ∀ (v : Value) (n : Nat) (xs : List Value), w.ownsRow 0 5 1 v n xs → v.ownBlock = some c → False := fun v n xs ho e => by
      rcases ho.2 with ⟨rfl, _⟩ | ⟨g, cap, cur, rfl, _, hg, _⟩
      · cases e
      · cases e
        rw [hb] at hg
        cases hg
        exact n6 rfl
    have key : ∀ {c2 : Nat} {cs2 : Array Value} {T2 : Nat} {fz2 : Nat × Nat}, w.heap[c2]? = some (.cells cs2 T2 fz2) → T ≠ T2 → c ≠ c2 := fun h9 hn e => by
      rw [e] at hb
      rw [hb] at h9
      cases h9
      exact hn rfl
    rcases mem_privL.1 hm with e | e | e | e | e | e | e | e
    · exact key hp'.pr n1 e
    · exact key hp'.mc n2 e
    · exact key hk.kn n3 e
    · exact key hk.so n4 e
    · exact key hk.k1 n5 e
    · exact key hk.k2 n5 e
    · exact hrow _ _ _ hk.o1 e
    · exact hrow _ _ _ hk.o2 e
  · exact h1 c hc
end Go.Proofs.YteimilnecahifaaGreatDoor

namespace Go.Proofs.YteimilnecahifaaGreatDoor.Nm
open Go.Proofs.YteimilnecahifaaGreatDoor Go.Proofs.YteimilnecahifaaGreatDoor.Op
open Go.RowKit

/-- Blocks of the tables. -/
def gls : List Nat := [5, 1, 8]
theorem TabD.kept {w w' : World} (h : TabD w) (hk : ∀ b ∈ gls, w'.heap[b]? = w.heap[b]?) (hs : w.heap.size ≤ w'.heap.size) : TabD w' := by
  have k1 := hk 5 (by simp [gls])
  have k2 := hk 1 (by simp [gls])
  refine ⟨(World.cell?_of_block (a := ⟨5, 7, none⟩) k1).trans h.t7, (World.cell?_of_block (a := ⟨5, 15, none⟩) k1).trans h.t15, Nat.lt_of_lt_of_le h.ps hs, ?_⟩
  have hv : w.var? Tryz.prog "internal/strconv.uint64pow10" = some _ := h.p10
  show w'.var? Tryz.prog "internal/strconv.uint64pow10" = some _
  unfold World.var? at hv ⊢
  simp only [gPow10, Option.bind_some] at hv ⊢
  rw [k2]
  exact hv
theorem ErS.kept {w w' : World} (h : ErS w) (hk : ∀ b ∈ gls, w'.heap[b]? = w.heap[b]?) : ErS w' := let ⟨ev, h1, h2⟩ := h; ⟨ev, (World.cell?_of_block (a := ⟨8, 0, none⟩) (hk 8 (by simp [gls]))).trans h1, h2⟩
/-- The tables' types. -/
structure GlT (w : World) : Prop where
  a : ∃ cs fz, w.heap[5]? = some (.cells cs 212 fz)
  b : ∃ cs fz, w.heap[1]? = some (.cells cs 108 fz)
  c : ∃ cs fz, w.heap[8]? = some (.cells cs 248 fz)
theorem GlT.kept {w w' : World} (h : GlT w) (hk : ∀ b ∈ gls, w'.heap[b]? = w.heap[b]?) : GlT w' := by
  obtain ⟨⟨c1, f1, h1⟩, ⟨c2, f2, h2⟩, ⟨c3, f3, h3⟩⟩ := h
  exact ⟨⟨c1, f1, (hk _ (by simp [gls])).trans h1⟩, ⟨c2, f2, (hk _ (by simp [gls])).trans h2⟩, ⟨c3, f3, (hk _ (by simp [gls])).trans h3⟩⟩
theorem GlT.more {E : Ev} {f : Bool} {w : World} {s : Sx} {M : List Nat} (h : GlT w) (hp : PS E (some f) w s M) : PS E (some f) w s (gls ++ M) := by
  obtain ⟨⟨c1, f1, h1⟩, ⟨c2, f2, h2⟩, ⟨c3, f3, h3⟩⟩ := h
  exact ((hp.more h3 (by unfold NoT; decide)).more h2 (by unfold NoT; decide)).more h1 (by unfold NoT; decide)
section
variable {tk p : Nat} {lv ov : Value}
set_option maxRecDepth 100000 in
set_option maxHeartbeats 2000000 in
theorem fail_n {w : World} {P Q : World → Prop} (op : ByteArray) (k : Int) (ht : TkN w tk p lv ov 0 false 1 false) (hsay : Calls Tryz.prog 155 #[ptr p, .string op, .int .i64 k] w fun e w' => (e = .panicked waitsP ∧ P w') ∨ ((∃ v, e = .returned v) ∧ TkN w' tk p lv ov 0 false 1 false ∧ Q w')) : Calls Tryz.prog 119 #[ptr tk, .string op, .int .i64 k] w fun e w' => (e = .panicked waitsP ∧ P w') ∨ ((∃ v, e = .returned v) ∧ ∃ w1, Q w1 ∧ TkN w1 tk p lv ov 0 false 1 false ∧ w' = w1.setCell ⟨tk, 3, none⟩ (.int .i64 1)) := by
  have t0 : w.cell? ⟨tk, 0, none⟩ = some (ptr p) := h_cell ht 0 rfl
  have hlt := h_lt ht
  clear ht
  go_enter Tryz.func119, Tryz.ntmps119
  go_wp2_with (go_at_call 155; refine hsay.mono ?_; rintro e w2 (⟨rfl, hP⟩ | ⟨⟨v, rfl⟩, ht2, hQ⟩); (· exact ⟨rfl, .inl ⟨rfl, hP⟩⟩); have t5 : w2.cell? ⟨tk, 5, none⟩ = some (.int .i64 1) := h_cell ht2 5 rfl; have t3 : w2.cell? ⟨tk, 3, none⟩ = some (.int .i64 0) := h_cell ht2 3 rfl; have z3 := h_fz ht2 3; have hlt2 := h_lt ht2; have H2 := Lib.hid (And.intro ht2 hQ); clear ht2 hQ hsay)
  go_end0
  exact .inr ⟨⟨_, rfl⟩, w2, H2.out.2, H2.out.1, rfl⟩
set_option maxRecDepth 100000 in
set_option maxHeartbeats 2000000 in
theorem wrong_n {w : World} {tb : Nat} {R : Ending → World → Prop} (a : ByteArray) (hb : w.heap[tb]? = some (.cells #[ptr tk] 174)) (hf : Calls Tryz.prog 119 #[ptr tk, .string a, .int .i64 25] w fun e w' => (e = .panicked waitsP ∧ R e w') ∨ ((∃ v, e = .returned v) ∧ ∀ v, R (.returned v) w')) : Calls Tryz.prog 118 #[.string a, ptr tb] w fun e w' => R e w' ∧ (e = .panicked waitsP ∨ ∃ v, e = .returned v) := by
  have b0 : w.cell? ⟨tb, 0, none⟩ = some (ptr tk) := h_cell hb 0 rfl
  have hlt := h_lt hb
  clear hb
  go_enter Tryz.func118, Tryz.ntmps118
  go_wp2_with (go_at_call 119; refine hf.mono ?_; rintro e w2 (⟨rfl, hR⟩ | ⟨⟨v, rfl⟩, hR⟩); (· exact ⟨rfl, hR, .inl rfl⟩))
  go_end0
  exact ⟨hR _, .inr ⟨_, rfl⟩⟩
end
end Go.Proofs.YteimilnecahifaaGreatDoor.Nm
