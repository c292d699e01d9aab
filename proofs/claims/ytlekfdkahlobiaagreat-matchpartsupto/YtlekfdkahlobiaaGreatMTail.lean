/- A set's number. -/
import Derived.Test.YtlekfdkahlobiaaGreatHSet
import Derived.Deep.RegionHeld3
namespace Go.Proofs.YtlekfdkahlobiaaGreat.Re
open Go.Proofs.YtlekfdkahlobiaaGreat.Tr
open Go.RowKit Go.Maps

section
variable {w0 w : World} {bb pg mb : Nat} {B : Bst} {U : List Tsk}
/-- What a set is asked for: its number, and the set there. -/
def SetO (w0 w : World) (bb pg mb : Nat) (p : UInt8 → Bool) (B : Bst) (U : List Tsk) (e : Ending) (w' : World) : Prop :=
  ∃ (i : Nat) (B' : Bst), e = .returned (.int .i64 (i : Int)) ∧ (B' = B ∨ B' = B.addSet p) ∧ B'.sets[i]? = some p ∧ Bu w0 w' bb pg mb B' U ∧ OnlyC bTys w w'
theorem Bu.numb (h : Bu w0 w bb pg mb B U) : w.cell? ⟨bb, 1, none⟩ = some (.map (some mb)) ∧ ∃ f, MapB w mb B.sets.length f ∧ NumS B.sets f :=
  let ⟨_, _, _, _, h1, _, _⟩ := h
  ⟨h_cell h1.bd 1 rfl, h1.mp⟩
set_option maxHeartbeats 4000000 in
set_option maxRecDepth 100000 in
theorem set_had {p : UInt8 → Bool} (h : Bu w0 w bb pg mb B U) {f : (UInt8 → Bool) → Option Value} (hm : MapB w mb B.sets.length f) {v : Value} (hf : f p = some v) (hv : ∃ i : Nat, v = .int .i64 (i : Int) ∧ B.sets[i]? = some p) :
    Calls Tryz.prog 30 #[bbP bb, bl p] w (SetO w0 w bb pg mb p B U) := by
  obtain ⟨i, rfl, hi⟩ := hv
  have hb1 := h.alloc (.cells (boolsL p).toArray 40)
  have hO1 : Only bTys w (w.alloc (.cells (boolsL p).toArray 40)) := Only.of ((Below.refl _ w).alloc (Nat.le_refl _) _)
  have hbx := al_new w (.cells (boolsL p).toArray 40)
  have hm1 := hO1.map hm
  have hz : ∀ u : World, (zeroValue 3).run Tryz.prog u = .ok (.int .i64 0) u := fun u => rfl
  have hlk0 := hm1.look (t := 69) (e := 3) Tryz.underlying69 (hz _) p
  rw [hf] at hlk0
  obtain ⟨c1, _⟩ := hb1.numb
  obtain ⟨e0, e2, _, _⟩ := hb1.cells
  have hlen := boolsL_len p
  generalize hV : w.alloc (.cells (boolsL p).toArray 40) = V at *
  have HS : Hid (SetO w0 w bb pg mb p B U (.returned (.int .i64 (i : Int))) V.drew) := Lib.hid ⟨i, B, rfl, .inl rfl, hi, hb1.draw, Only.c ⟨hO1.size, hO1.blk⟩⟩
  have hlk : (Instr.lookup 69 (.map (some mb)) (.agg (boolsL p).toArray) true).run Tryz.prog V.drew = .ok (.tuple #[.int .i64 (i : Int), .bool true]) V.drew := by
    have := (Only.map (S := []) (w' := V.drew) ⟨Nat.le_refl _, fun _ _ h _ => h⟩ hm1).look (t := 69) (e := 3) Tryz.underlying69 (hz _) p
    rw [hf] at this
    exact this
  clear h hm hf hb1 hO1 hm1 hlk0 hz
  unfold bl
  subst hV
  generalize boolsL p = L at hlk hbx hlen HS c1 e0 e2 ⊢
  have hu : Tryz.prog.underlying 40 = _ := Tryz.underlying40
  have hinf : (Tryz.prog.info? 40).map (·.size) = some L.length := by rw [hlen]; exact info256
  have r0 : (w.alloc (.cells L.toArray 40)).rangeAt w.heap.size 0 L := fun j v hv => by
    rw [Nat.zero_add]
    exact h_cell hbx j (by simpa using hv)
  have hszz : L.toArray.size = 256 := by simp [hlen]
  clear hbx
  go_enter Tryz.func30, Tryz.ntmps30
  go_upto_region 1 with fail
  go_region_held3 (fun w' => w'.rangeAt w.heap.size 0 L ∧ w'.cell? ⟨bb, 1, none⟩ = some (.map (some mb))) (first | exact ⟨r0, c1⟩ | exact ⟨(World.rangeAt_drew _ _ _ _).2 r0, c1⟩) (first | fail)
  all_goals
    go_wp2_with fail
    go_ret
    exact HS.out
end
end Go.Proofs.YtlekfdkahlobiaaGreat.Re

namespace Go.Proofs.YtlekfdkahlobiaaGreat.Re
open Go.Proofs.YtlekfdkahlobiaaGreat.Tr
open Go.RowKit Go.Maps

theorem mrow_set {w : World} {base e s n g cap : Nat} {xs : List Value} (h : w.ownsRow base e s (.slice (some ⟨g, 0, none⟩) n cap) n xs) {k : Nat} (v : Value) : (w.setCell ⟨g, k, none⟩ v).ownsRow base e s (.slice (some ⟨g, 0, none⟩) n cap) n (xs.set k v) := by
  refine ⟨by rw [List.length_set]; exact h.1, ?_⟩
  rcases h.2 with ⟨e1, _⟩ | ⟨g', cap', cur, e1, hb, hg, hle, hcap, hsz, ht⟩
  · cases e1
  · cases e1
    refine .inr ⟨g, cap, cur.setIfInBounds k v, rfl, hb, h_set hg k v, hle, hcap, by rw [Array.size_setIfInBounds]; exact hsz, ?_⟩
    rw [Array.toList_setIfInBounds, List.take_set, ht]
theorem st_set : ∀ {l : List Stt} {i : Nat} {s : Stt} (f : Nat), l[i]? = some s → (stCells l).set (i * 4 + 2) (.int .i64 (f : Int)) = stCells (l.set i ⟨s.kind, s.set, f, s.other⟩)
  | [], i, s, f, h => by simp at h
  | t :: l, 0, s, f, h => by
    simp only [List.getElem?_cons_zero, Option.some.injEq] at h
    subst h
    simp [stCells]
  | t :: l, i + 1, s, f, h => by
    have ih := st_set (l := l) (i := i) f (by simpa using h)
    have e : ∀ x : List Stt, stCells (t :: x) = [.int .i64 (t.kind : Int), .int .i64 (t.set : Int), .int .i64 (t.next : Int), .int .i64 (t.other : Int)] ++ stCells x := fun x => by simp [stCells]
    rw [List.set_cons_succ, e, e, ← ih, show (i + 1) * 4 + 2 = 4 + (i * 4 + 2) by omega, List.set_append_right _ _ (by simp)]
    simp
/-- What is in a cell. -/
def cellAt (w : World) (a : Addr) : Value := (w.cell? a).getD undef
theorem cellAt_some {w : World} {a : Addr} {v : Value} (h : w.cell? a = some v) : w.cell? a = some (cellAt w a) := by
  unfold cellAt
  rw [h]
  rfl
section
variable {w0 w : World} {bb pg mb : Nat} {B : Bst} {U : List Tsk}
/-- A state that is there is turned. -/
theorem Bu.turn (h : Bu w0 w bb pg mb B U) {a : Nat} {s : Stt} (hs : B.sts[a]? = some s) : ∃ g cap, w.cell? ⟨pg, 0, none⟩ = some (.slice (some ⟨g, 0, none⟩) B.sts.length cap) ∧ (∃ v, w.cell? ⟨g, a * 4 + 2, none⟩ = some v) ∧ w.frozen? ⟨g, a * 4 + 2, none⟩ = false ∧ a < B.sts.length ∧ B.sts.length ≤ cap ∧ cap ≤ 9223372036854775807 ∧
    ((w.setCell ⟨g, a * 4 + 2, none⟩ (.int .i64 (B.first : Int))).cell? ⟨pg, 0, none⟩ = some (.slice (some ⟨g, 0, none⟩) B.sts.length cap) ∧ (w.setCell ⟨g, a * 4 + 2, none⟩ (.int .i64 (B.first : Int))).cell? ⟨g, a * 4 + 2, none⟩ = some (.int .i64 (B.first : Int)) ∧ (w.setCell ⟨g, a * 4 + 2, none⟩ (.int .i64 (B.first : Int))).frozen? ⟨g, a * 4 + 2, none⟩ = false) ∧
    Bu w0 (w.setCell ⟨g, a * 4 + 2, none⟩ (.int .i64 (B.first : Int))) bb pg mb (B.patch a ⟨s.kind, s.set, B.first, s.other⟩ B.first) U ∧ Only bTys w (w.setCell ⟨g, a * 4 + 2, none⟩ (.int .i64 (B.first : Int))) := by
  obtain ⟨sv, tv, lv, fs, h1, h2, h3⟩ := h
  have ha := (List.getElem?_eq_some_iff.1 hs).1
  have hst := h1.st
  rcases hst.2 with ⟨_, e0⟩ | ⟨g, cap, cur, rfl, hb, hg, hle, hcap, hsz, ht⟩
  · omega
  have k : Only [58] w (w.setCell ⟨g, a * 4 + 2, none⟩ (.int .i64 (B.first : Int))) := Only.set hg (by decide) _ _
  have k2 := k.more (S' := bTys) (by decide)
  obtain ⟨f, m1, m2⟩ := h1.mp
  have hr := mrow_set hst (k := a * 4 + 2) (.int .i64 (B.first : Int))
  rw [st_set B.first hs] at hr
  refine ⟨g, cap, h_cell h1.pr 0 rfl, ⟨cur[a * 4 + 2]'(by omega), h_cell hg _ (Array.getElem?_eq_getElem (by omega))⟩, h_fz hg _, ha, hle, by unfold maxLen at hcap; exact hcap, ⟨h_cell (k.cells h1.pr (by decide)) 0 rfl, h_cell (h_set hg (a * 4 + 2) _) _ (by rw [Array.getElem?_setIfInBounds_self_of_lt (by omega)]), h_fz (h_set hg (a * 4 + 2) _) _⟩, ⟨_, tv, lv, fs, ⟨k.cells h1.bd (by decide), k.cells h1.pr (by decide), ?_, k.row h1.se (by decide), ⟨f, k.map m1, m2⟩, k.row h1.lf (by decide), h1.gb, h1.gp, h1.gm⟩, TasksV.keep k2 h2, h3.setCell (p := ⟨g, a * 4 + 2, none⟩) hb _⟩, k2⟩
  show World.ownsRow _ _ _ _ _ (B.sts.set a _).length (stCells (B.sts.set a _))
  rw [List.length_set]
  exact hr
set_option maxHeartbeats 4000000 in
set_option maxRecDepth 100000 in
theorem clo_loop {b c d a least : Nat} {s : Stt} (h : Bu w0 w bb pg mb B U) (hs : B.sts[a]? = some s) (hb : BxB w b bb) (hc : BxI w c a) (hd : BxI w d least) :
    Calls Tryz.prog 61 #[ptr b, ptr c, ptr d] w (BuO w0 w bb pg mb (B.patch a ⟨s.kind, s.set, B.first, s.other⟩ (if least = 0 then a else B.first)) U) := by
  obtain ⟨g, cap, p0, ⟨v0, pv⟩, pz, ha, hle, hcap, ⟨r0, r1, r2⟩, hB1, hO1⟩ := h.turn hs
  obtain ⟨e0, e2, _, _⟩ := h.cells
  have c0 := h_cell hb 0 rfl
  have c1 := h_cell hc 0 rfl
  have n1 : (a : Int) < (B.sts.length : Int) := by omega
  generalize hV : w.setCell ⟨g, a * 4 + 2, none⟩ (.int .i64 (B.first : Int)) = V at *
  have HH : Hid (Bu w0 V.drew bb pg mb (B.patch a ⟨s.kind, s.set, B.first, s.other⟩ B.first) U ∧ Only bTys w V.drew ∧ BxB V.drew b bb ∧ BxI V.drew c a ∧ BxI V.drew d least) := Lib.hid ⟨hB1.draw, ⟨hO1.size, hO1.blk⟩, hO1.cells hb (by decide), hO1.cells hc (by decide), hO1.cells hd (by decide)⟩
  have pv := cellAt_some pv
  have HS : Hid (V.drew.cell? ⟨b, 0, none⟩ = some (bbP bb) ∧ V.drew.cell? ⟨c, 0, none⟩ = some (.int .i64 (a : Int)) ∧ V.drew.cell? ⟨bb, 0, none⟩ = some (ptr pg) ∧ V.drew.cell? ⟨pg, 0, none⟩ = some (.slice (some ⟨g, 0, none⟩) B.sts.length cap) ∧ V.drew.cell? ⟨pg, 2, none⟩ = some (.int .i64 (B.first : Int)) ∧ V.drew.cell? ⟨g, a * 4 + 2, none⟩ = some (cellAt V.drew ⟨g, a * 4 + 2, none⟩) ∧ V.drew.frozen? ⟨g, a * 4 + 2, none⟩ = false) := by
    exact ⟨h_cell HH.out.2.2.1 0 rfl, h_cell HH.out.2.2.2.1 0 rfl, HH.out.1.cells.1, r0, HH.out.1.cells.2.1, cellAt_some r1, r2⟩
  clear h hB1 hO1 hb hc hd hs r0 r1 r2
  go_enter Tryz.func61, Tryz.ntmps61
  go_upto_region 0 with fail
  go_region_held3 (fun w' => w'.cell? ⟨b, 0, none⟩ = some (bbP bb) ∧ w'.cell? ⟨c, 0, none⟩ = some (.int .i64 (a : Int)) ∧ w'.cell? ⟨bb, 0, none⟩ = some (ptr pg) ∧ w'.cell? ⟨pg, 0, none⟩ = some (.slice (some ⟨g, 0, none⟩) B.sts.length cap) ∧ w'.cell? ⟨pg, 2, none⟩ = some (.int .i64 (B.first : Int)) ∧ w'.cell? ⟨g, a * 4 + 2, none⟩ = some (cellAt w' ⟨g, a * 4 + 2, none⟩) ∧ w'.frozen? ⟨g, a * 4 + 2, none⟩ = false) (first | exact ⟨c0, c1, e0, p0, e2, pv, pz⟩ | exact HS.out) (first | fail)
  all_goals
    clear hV c0 c1 e0 e2 p0 pv pz
    have g0 := h_cell HH.out.2.2.1 0 rfl
    have g1 := h_cell HH.out.2.2.2.1 0 rfl
    have g2 := h_cell HH.out.2.2.2.2 0 rfl
    obtain ⟨q0, q2, _, _⟩ := HH.out.1.cells
    have qz := HH.out.1.fz
    have HF : Hid (least = 0 → BuO w0 w bb pg mb (B.patch a ⟨s.kind, s.set, B.first, s.other⟩ a) U (.returned (.tuple #[])) ((V.drew.setCell ⟨pg, 2, none⟩ (.int .i64 (a : Int))).drew)) := Lib.hid fun _ => by
      obtain ⟨x1, x2⟩ := HH.out.1.first a
      exact ⟨rfl, x1.draw, ⟨(HH.out.2.1.trans x2).size, (HH.out.2.1.trans x2).blk⟩⟩
    have HE : Hid (BuO w0 w bb pg mb (B.patch a ⟨s.kind, s.set, B.first, s.other⟩ B.first) U (.returned (.tuple #[])) V.drew) := Lib.hid ⟨rfl, HH.out.1, HH.out.2.1⟩
    by_cases hl : least = 0
    · subst hl
      go_upto_region 2 with fail
      go_region_law (fail)
      all_goals
        go_wp2_with fail
        go_end0
        first | exact HF.out trivial | exact HF.out rfl
    · rw [if_neg hl]
      have n2 : ((least : Int) == 0) = false := by rw [beq_eq_false_iff_ne]; omega
      go_wp2_with fail
      go_end0
      exact HE.out
end
end Go.Proofs.YtlekfdkahlobiaaGreat.Re

namespace Go.Proofs.YtlekfdkahlobiaaGreat.Re

section
variable {P : Program} {ops : Array Oper} {Q : Exit → Act → World → Prop} {md : Region.Mode} {S : World → Prop} {st : Nat}
/-- Whatever order is picked, and S holds behind every operation but st. -/
def wpAnyT (P : Program) (md : Region.Mode) (ops : Array Oper) (Q : Exit → Act → World → Prop) (S : World → Prop) (st : Nat) : Nat → Array Bool → Act → World → Prop
  | 0, listed, a, w => Region.ready md ops listed = [] ∧ Q .normal a w
  | fuel + 1, listed, a, w =>
    (Region.ready md ops listed = [] → Q .normal a w) ∧
    ∀ i ∈ Region.ready md ops listed, wpOp P ops Q i (fun a' w' => (i ≠ st → S w') ∧ wpAnyT P md ops Q S st fuel (listed.setIfInBounds i true) a' w') a w
theorem wpAny_of_tail : ∀ (fuel : Nat) (listed : Array Bool) (a : Act) (w : World), wpAnyT P md ops Q S st fuel listed a w → wpAny P md ops Q fuel listed a w
  | 0, _, _, _, h => h
  | fuel + 1, _, _, _, h => ⟨h.1, fun i hi => wpOp_mono (fun a' w' h' => wpAny_of_tail fuel _ a' w' h'.2) (h.2 i hi)⟩
/-- Whatever was carried out was let. -/
def shutB (md : Region.Mode) (ops : Array Oper) (listed : Array Bool) : Bool :=
  (List.range ops.size).all fun k => !listed.getD k true || ((ops[k]?).map (·.after.all fun e => !Region.binds md e || listed.getD e.on false)).getD true
/-- k waits for i. -/
def waitsB (md : Region.Mode) (ops : Array Oper) (i : Nat) : Nat → Nat → Bool
  | 0, _ => false
  | f + 1, k => ((ops[k]?).map (·.after.any fun e => Region.binds md e && (e.on == i || waitsB md ops i f e.on))).getD false
theorem shut_spec {listed : Array Bool} (h : shutB md ops listed = true) {k : Nat} {ok : Oper} (hk : ops[k]? = some ok) (hl : listed.getD k true = true) : ∀ e ∈ ok.after, Region.binds md e = true → listed.getD e.on false = true := by
  have hlt := (Array.getElem?_eq_some_iff.1 hk).1
  unfold shutB at h
  rw [List.all_eq_true] at h
  have := h k (List.mem_range.2 hlt)
  rw [hk, hl] at this
  simp only [Option.map_some, Option.getD_some, Bool.not_true, Bool.false_or] at this
  intro e he hb
  have h2 := (Array.all_eq_true_iff_forall_mem.1 this) e he
  rw [hb] at h2
  simpa using h2
theorem shut_set {listed : Array Bool} (h : shutB md ops listed = true) {j : Nat} (hj : j ∈ Region.ready md ops listed) : shutB md ops (listed.setIfInBounds j true) = true := by
  unfold shutB
  rw [List.all_eq_true]
  intro k hk
  cases hok : ops[k]? with
  | none => simp
  | some ok =>
    simp only [Option.map_some, Option.getD_some, Bool.or_eq_true, Bool.not_eq_true']
    by_cases hl : (listed.setIfInBounds j true).getD k true = true
    · refine .inr ?_
      rw [Array.all_eq_true_iff_forall_mem]
      intro e he
      by_cases hb : Region.binds md e = true
      · rw [hb]
        simp only [Bool.not_true, Bool.false_or]
        refine getD_set_true ?_
        by_cases e1 : j = k
        · subst e1
          obtain ⟨_, o, ho, hall⟩ := mem_ready.1 hj
          rw [hok] at ho
          cases ho
          exact hall e he hb
        · rw [getD_set_ne true e1] at hl
          exact shut_spec h hok hl e he hb
      · simp only [Bool.not_eq_true] at hb
        rw [hb]
        rfl
    · exact .inl (by simpa using hl)
theorem false_of {listed : Array Bool} {i : Nat} (h0 : listed.getD i true = false) (h1 : listed.getD i false = true) : False := by
  rcases Nat.lt_or_ge i listed.size with h' | h'
  · simp [h'] at h0 h1; rw [h0] at h1; cases h1
  · simp [Array.getElem?_eq_none h'] at h1
/-- What waits for something that was not carried out can't come up. -/
theorem waits_not {listed : Array Bool} {i : Nat} (hc : shutB md ops listed = true) (hi : listed.getD i true = false) : ∀ (f k : Nat), waitsB md ops i f k = true → ∀ ok, ops[k]? = some ok → ¬ ∀ e ∈ ok.after, Region.binds md e = true → listed.getD e.on false = true
  | 0, k, h, ok, _, _ => by cases h
  | f + 1, k, h, ok, hok, hall => by
    unfold waitsB at h
    rw [hok] at h
    simp only [Option.map_some, Option.getD_some] at h
    obtain ⟨e, he, hb⟩ := Array.any_eq_true'.1 h
    simp only [Bool.and_eq_true, Bool.or_eq_true, beq_iff_eq] at hb
    have h1 := hall e he hb.1
    rcases hb.2 with h2 | h2
    · rw [h2] at h1
      exact false_of hi h1
    · cases ho2 : ops[e.on]? with
      | none =>
        cases f with
        | zero => cases h2
        | succ f => unfold waitsB at h2; rw [ho2] at h2; cases h2
      | some o2 =>
        refine waits_not hc hi f e.on h2 o2 ho2 (shut_spec hc ho2 ?_)
        by_cases h3 : listed.getD e.on true = true
        · exact h3
        · exact (false_of (by simpa using h3) h1).elim
theorem wpAnyT_first {i f : Nat} {oi : Oper} {v : Value} (hi : ops[i]? = some oi) (hsel : ∀ (j : Nat) (o : Oper) cs b, ops[j]? = some o → o.op ≠ .select cs b)
    (hQ : ∀ c a w, Q (.panic c) (a.put oi.dst v) w → Q (.panic c) a w) (hne : i ≠ st) (hwt : waitsB md ops i f st = true) :
    ∀ (fuel : Nat) (listed : Array Bool) (a : Act) (w : World), shutB md ops listed = true →
      (∀ j oj, ops[j]? = some oj → j ≠ i → listed.getD j true = false → (∀ e ∈ oj.after, Region.binds md e = true → e.on ≠ i) → oi.apart ops oj = true) →
      i ∈ Region.ready md ops listed → YieldsIf P ops S oi v a → S w →
      wpAnyT P md ops Q S st fuel (listed.setIfInBounds i true) (a.put oi.dst v) w → wpAnyT P md ops Q S st (fuel + 1) listed a w := by
  intro fuel
  induction fuel with
  | zero =>
    intro listed a w _ _ hr hy hS H
    refine ⟨fun h => (by rw [h] at hr; cases hr), fun j hj => ?_⟩
    by_cases hji : j = i
    · subst hji; exact hy.wpOp hi hS ⟨fun _ => hS, H⟩
    · have := ready_mono hj hji
      rw [H.1] at this
      cases this
  | succ fuel ih =>
    intro listed a w hcl hfree hr hy hS H
    refine ⟨fun h => (by rw [h] at hr; cases hr), fun j hj => ?_⟩
    by_cases hji : j = i
    · subst hji; exact hy.wpOp hi hS ⟨fun _ => hS, H⟩
    · have h1 := H.2 j (ready_mono hj hji)
      obtain ⟨hjun, oj, hoj, hall⟩ := mem_ready.1 hj
      have hiun := (mem_ready.1 hr).1
      have hjst : j ≠ st := fun e => by
        subst e
        exact waits_not hcl hiun f j hwt oj hoj hall
      have hnot : ∀ e ∈ oj.after, Region.binds md e = true → e.on ≠ i := fun e he hb heq => by
        have h1 := hall e he hb
        rw [heq] at h1
        exact false_of hiun h1
      have h2 := wpOp_putIf hoj (hfree j oj hoj hji hjun hnot) (fun cs b => hsel i oi cs b hi) (fun cs b => hsel j oj cs b hoj) hQ hy h1
      have hfree' : ∀ k ok, ops[k]? = some ok → k ≠ i → (listed.setIfInBounds j true).getD k true = false →
          (∀ e ∈ ok.after, Region.binds md e = true → e.on ≠ i) → oi.apart ops ok = true := fun k ok hk hki hun hno => by
        refine hfree k ok hk hki ?_ hno
        by_cases hjk : j = k
        · subst hjk; exact hjun
        · rw [getD_set_ne true hjk] at hun; exact hun
      refine wpOp_mono (fun a' w' h3 => ⟨fun _ => h3.2.1 hjst, ih (listed.setIfInBounds j true) a' w' (shut_set hcl hj) hfree' (ready_mono hr (Ne.symm hji)) h3.1 (h3.2.1 hjst) ?_⟩) h2
      rw [Array.setIfInBounds_comm _ _ hji]
      exact h3.2.2
/-- Number i is taken first. f: how far st waits for i. -/
theorem wpAnyT_take {i : Nat} (f : Nat) {oi : Oper} {v : Value} {fuel : Nat} {listed : Array Bool} {a : Act} {w : World} (hi : ops.toList[i]? = some oi)
    (hb : (Region.noSelect ops && Region.free md ops listed i && (Region.ready md ops listed).contains i && shutB md ops listed && waitsB md ops i f st && !(i == st)) = true)
    (hQ : ∀ c a w, Q (.panic c) (a.put oi.dst v) w → Q (.panic c) a w) (hy : YieldsIf P ops S oi v a) (hS : S w)
    (h : wpAnyT P md ops Q S st fuel (listed.setIfInBounds i true) (a.put oi.dst v) w) : wpAnyT P md ops Q S st (fuel + 1) listed a w := by
  simp only [Bool.and_eq_true, Bool.not_eq_true', beq_eq_false_iff_ne] at hb
  obtain ⟨⟨⟨⟨⟨h1, h2⟩, h3⟩, h4⟩, h5⟩, h6⟩ := hb
  rw [Array.getElem?_toList] at hi
  exact wpAnyT_first hi (Region.noSelect_spec h1) hQ h6 h5 fuel listed a w h4 (Region.free_spec hi h2) (by simpa using h3) hy hS h
/-- One alone may come up: it is carried out. -/
theorem wpAnyT_one {i : Nat} {o : Oper} {fuel : Nat} {listed : Array Bool} {a : Act} {w : World} (ho : ops.toList[i]? = some o) (hr : Region.ready md ops listed = [i])
    (h : ∀ K' : Act → World → Prop, Shut (∀ a w, (i ≠ st → S w) → wpAnyT P md ops Q S st fuel (listed.setIfInBounds i true) a w → K' a w) → if Region.wanted o (yielded ops a.tmps) = true then Oper.wp P o a w K' Q else K' (a.put o.dst undef) w) : wpAnyT P md ops Q S st (fuel + 1) listed a w := by
  rw [Array.getElem?_toList] at ho
  refine ⟨fun h0 => (by rw [hr] at h0; cases h0), ?_⟩
  rw [hr]
  intro j hj
  rw [List.mem_singleton] at hj
  subst hj
  exact wpOp_step ho (fun K' hK => h K' (fun a w hS hW => hK a w ⟨hS, hW⟩))
theorem wpAnyT_done {listed : Array Bool} {a : Act} {w : World} (hr : Region.ready md ops listed = []) (h : Q .normal a w) : ∀ fuel, wpAnyT P md ops Q S st fuel listed a w
  | 0 => ⟨hr, h⟩
  | _ + 1 => ⟨fun _ => h, by rw [hr]; simp⟩
/-- The beginning. st: the store. -/
theorem wp_region_tail {id : Nat} (st : Nat) (S : World → Prop) {a : Act} {w : World} (hm : P.follows .mixedOrders = true) (hS : S w.drew)
    (h : S w.drew → wpAnyT P .any ops Q S st ops.size (Array.replicate ops.size false) a w.drew) : (Code.region id ops true).wp P Q a w :=
  wp_region_any hm (wpAny_of_tail _ _ _ _ (h hS))
/-- A slice literal of one part is made. -/
theorem step_build1 {o : Oper} {a : Act} {w w' : World} {K : Act → World → Prop} {E : Prop} (hg : o.guard = none) (t : TypeId) (x : Operand) (ho : o.op = .buildSlice t 1 #[(0, x)]) {v v' : Value} (hx : a.eval x = v) (hr : (Instr.buildSlice t 1 #[(0, v)]).run P w = .ok v' w') (h : K (a.put o.dst v') w') : if Region.wanted o (yielded ops a.tmps) = true then Oper.wp P o a w K Q else E := by
  rw [if_pos (by simp [Region.wanted, hg])]
  subst hx
  unfold Oper.wp execOp
  have e : (#[(0, x)] : Array (Nat × Operand)).map (fun (i, x) => (i, a.eval x)) = #[(0, a.eval x)] := by simp
  simp only [ho, e, Sem.run_bind, hr, Result.andThen_ok]
  exact h
end
end Go.Proofs.YtlekfdkahlobiaaGreat.Re
