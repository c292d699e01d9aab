/- tr: a set that is filled up. -/
import Derived.Test.YtfkoehfkiommpaaGreatDoorZAsk1
import Derived.Test.YtfkoehfkiommpaaGreatDoorYLett
namespace Go.Proofs.YtfkoehfkiommpaaGreatDoor.Tr
open Go.Proofs.YtfkoehfkiommpaaGreatDoor.Op
open Go.RowKit

theorem row_cut0 {w : World} {B g n cap : Nat} {l : List UInt8} (h : Row w B (.slice (some ⟨g, 0, none⟩) n cap) l) : Row w B (.slice (some ⟨g, 0, none⟩) 0 cap) [] := by
  refine ⟨rfl, .inr ?_⟩
  rcases h.2 with ⟨h1, _⟩ | ⟨g', cap', cur, h1, hb, hg, hle, hcap, hsz, ht⟩
  · cases h1
  · cases h1
    exact ⟨g, cap, cur, rfl, hb, hg, Nat.zero_le _, hcap, hsz, by simp [u8s]⟩
set_option maxRecDepth 100000 in
set_option maxHeartbeats 4000000 in
theorem repl_c (g cap B : Nat) (c : UInt8) (rv : Value) (d : List UInt8) (w : World) (hrow : Row w B (.slice (some ⟨g, 0, none⟩) 1 cap) [c]) (hd : ByAt w rv d) (hd0 : d ≠ []) (hdl : d.length ≤ 1048576) (hB : B ≤ w.heap.size) :
    Calls Tryz.prog 236 #[.slice (some ⟨g, 0, none⟩) 1 cap, .int .i64 0, .int .i64 1, rv] w fun e w' => ∃ v, e = .returned v ∧ Row w' B v d ∧ Below B w w' := by
  obtain ⟨i0, hi, hz0, hz1, hz2⟩ := info_parts2 info_u8
  rcases hd with ⟨_, h0⟩ | ⟨vb, off, vcap, rfl, hcap, hvb, hvc⟩
  · exact absurd h0 hd0
  have hc1 : 1 ≤ cap := by
    rcases hrow.2 with ⟨h1, _⟩ | ⟨g', cap', cur, h1, hb, hg, hle, _⟩
    · cases h1
    · cases h1
      simpa using hle
  have hdp := List.length_pos_iff.2 hd0
  have HR := Lib.hid (And.intro hrow (And.intro (row_cut0 hrow) hvc))
  have u22 := Tryz.underlying23
  have n1 : ¬ ((d.length : Int) < 1) := by omega
  have n2 : (1 : Int) ≤ (cap : Int) := by omega
  clear hrow hvc hd0
  go_enter Tryz.func236, Tryz.ntmps236
  go_wp2_with (at_builtin; refine wpList_append_own _ rfl _ _ 23 rfl B 5 i0 (.int .u8 0) 1 1 Tryz.underlying23 hi hz0 hz1 hz2 rfl (by decide) _ _ _ rfl HR.out.2.1 ⟨vb, off, none⟩ d.length vcap (u8s d) rfl (by simp [u8s]) (news_by HR.out.2.2) (u8s_one d) (by unfold maxLen; simp; omega) (by simp; omega) (by omega) ?_; intro v2 w9 hown2 hgrow2 _; have hr9 : Row w9 B v2 d := (by have h := hown2; simp at h; exact h); obtain ⟨xb, cb, rfl⟩ := own_slice2 hr9; have HX := Lib.hid (And.intro hr9 hgrow2); clear hown2 hgrow2 hr9)
  go_ret
  exact ⟨_, rfl, HX.out.1, (Below.refl B w).grown HX.out.2 hB (fun j ej => own_ge2 HR.out.2.1 j ej)⟩
set_option maxRecDepth 100000 in
set_option maxHeartbeats 4000000 in
theorem filled_no (va : Option Addr) (n vc : Nat) (len : Int) (w : World) :
    Calls Tryz.prog 216 #[.slice va n vc, .int .i64 (-1), .int .i64 len] w fun e w' => e = .returned (.slice va n vc) ∧ w' = w := by
  go_enter Tryz.func216, Tryz.ntmps216
  go_wp2
  go_ret
  exact ⟨rfl, rfl⟩
set_option maxRecDepth 100000 in
set_option maxHeartbeats 4000000 in
theorem filled_one (g cap B : Nat) (c : UInt8) (n : Nat) (w : World) (hrow : Row w B (.slice (some ⟨g, 0, none⟩) 1 cap) [c]) (hn0 : 0 < n) (hn : n ≤ 1048576) (hB : B ≤ w.heap.size) :
    Calls Tryz.prog 216 #[.slice (some ⟨g, 0, none⟩) 1 cap, .int .i64 0, .int .i64 (n : Int)] w fun e w' => ∃ v, e = .returned v ∧ Row w' B v (List.replicate n c) ∧ Below B w w' := by
  have hc1 : 1 ≤ cap := by
    rcases hrow.2 with ⟨h1, _⟩ | ⟨g', cap', cur, h1, hb, hg, hle, _⟩
    · cases h1
    · cases h1
      simpa using hle
  have hgc : w.cell? ⟨g, 0, none⟩ = some (.int .u8 (c.toNat : Int)) := by
    have := own_cell2 hrow 0 (by simp)
    simpa [u8s] using this
  have hrep := rep_c c n g 0 cap w hn0 hn hgc
  have n1 : (0 : Int) < (n : Int) := by omega
  have n2 : (1 : Int) ≤ (cap : Int) := by omega
  have n3 : max 0 (n : Int) = (n : Int) := by omega
  have n4 : IntKind.i64.wrap ((n : Int) - 0) = (n : Int) := by rw [Int.sub_zero]; exact IntWalk.i64_in _ (by omega)
  have HR := Lib.hid (And.intro hrow hB)
  clear hrow hgc hB
  go_enter Tryz.func216, Tryz.ntmps216
  go_wp2_with (first
    | (go_at_call 51; refine hrep.mono ?_; rintro e w1 ⟨rv, rfl, hby1, hB1⟩; have hrp := repl_c g cap B c rv (List.replicate n c) w1 (row_turn HR.out.1 hB1) hby1 (by intro e; have := congrArg List.length e; simp at this; omega) (by simp; omega) (Nat.le_trans HR.out.2 hB1.size); obtain ⟨bx, bc, hrv⟩ := hby1.shape; rw [List.length_replicate] at hrv; subst hrv; have HB1 := Lib.hid hB1; clear hB1 hby1 hrep)
    | (go_at_call 236; refine hrp.mono ?_; rintro e w2 ⟨v2, rfl, hr2, hB2⟩; obtain ⟨cx, cc, hv2⟩ := own_slice2 hr2; rw [List.length_replicate] at hv2; subst hv2; have HR2 := Lib.hid (And.intro hr2 hB2); clear hr2 hB2 hrp))
  go_ret
  exact ⟨_, rfl, HR2.out.1, (HB1.out.mono HR.out.2).trans HR2.out.2⟩
end Go.Proofs.YtfkoehfkiommpaaGreatDoor.Tr

namespace Go.Proofs.YtfkoehfkiommpaaGreatDoor.Tr
open Go.Proofs.YtfkoehfkiommpaaGreatDoor.Op
open Go.RowKit

theorem set_low (s : List UInt8) : (setS s).2.1 = -1 ∨ 0 ≤ (setS s).2.1 := by
  have key : ∀ (n : Nat) (l : List UInt8) (x : St), (x.rest = -1 ∨ 0 ≤ x.rest) → ((setN n l x).rest = -1 ∨ 0 ≤ (setN n l x).rest) := by
    intro n
    induction n with
    | zero => intro l x h; exact h
    | succ n ih =>
      intro l x h
      cases l with
      | nil => exact h
      | cons c r =>
        rw [setN]
        refine ih _ _ ?_
        rcases step_rest (c :: r) x with e | e
        · rw [e]; exact h
        · rw [e]; exact .inr (by omega)
  unfold setS setE
  split
  · exact .inl rfl
  · exact key _ _ _ (.inl rfl)
theorem setN_out : ∀ (n : Nat) (l : List UInt8) (x : St), (setN n l x).out.length ≤ x.out.length + 65536 * l.length
  | 0, l, x => by simp [setN]
  | n + 1, [], x => by simp [setN]
  | n + 1, c :: r, x => by
    rw [setN]
    have hf := step_fits (l := c :: r) (by simp)
    have h1 := setN_out n ((c :: r).drop (stepS (c :: r)).1) ((stepS (c :: r)).2 x)
    have h2 := hf.out x
    have h3 := hf.le
    rw [List.length_drop] at h1
    have e : 65536 * ((c :: r).length - (stepS (c :: r)).1) + 65536 * (stepS (c :: r)).1 = 65536 * (c :: r).length := by omega
    omega
theorem set_len (s : List UInt8) : (setS s).1.length ≤ 65536 * s.length := by
  have h := setN_out s.length s st0
  unfold setS setE
  split
  · simp
  · simpa [st0] using h
/-- Set, as tr is asked for. -/
def oneOf (l : Opts) (a : ByteArray) : List UInt8 := if hasO l 99 = true then othersS (setS a.data.toList).1 else (setS a.data.toList).1
/-- Arguments of which the laws speak. -/
def plainB (sa : List ByteArray) : Bool := match parseS trSpec [] sa with
  | some (l, [_]) => !hasO l 67
  | some (l, [a, b]) => !hasO l 67 && !hasO l 100 && (if hasO l 99 then decide ((setS b.data.toList).2.1 = 0) && (setS b.data.toList).1.length == 1 && !(oneOf l a).isEmpty else decide ((setS b.data.toList).2.1 < 0))
  | _ => false
section
variable {w : World}
set_option maxRecDepth 100000 in
set_option maxHeartbeats 2000000 in
theorem takes1_c (tr de sq : Bool) (v1 v2 : Value) (w : World) (h : (de != sq) = true) (h1 : ∃ a n c, v1 = .slice a n c) (h2 : ∃ a n c, v2 = .slice a n c) : Calls Tryz.prog 214 #[.agg #[.bool tr, .bool de, .bool sq, v1, v2], .int .i64 1] w fun e w' => e = .returned (.bool true) ∧ Below w.heap.size w w' := by
  obtain ⟨a1, n1, c1, rfl⟩ := h1
  obtain ⟨a2, n2, c2, rfl⟩ := h2
  cases de <;> cases sq <;> first | (cases h; done) | skip
  all_goals
    go_enter Tryz.func214, Tryz.ntmps214
    go_wp2
    go_ret
    exact ⟨rfl, (Below.refl _ w).alloc (Nat.le_refl _) _⟩
set_option maxRecDepth 100000 in
set_option maxHeartbeats 2000000 in
theorem takes2_c (tr sq : Bool) (v1 v2 : Value) (w : World) (h1 : ∃ a n c, v1 = .slice a n c) (h2 : ∃ a n c, v2 = .slice a n c) : Calls Tryz.prog 214 #[.agg #[.bool tr, .bool false, .bool sq, v1, v2], .int .i64 2] w fun e w' => e = .returned (.bool true) ∧ Below w.heap.size w w' := by
  obtain ⟨a1, n1, c1, rfl⟩ := h1
  obtain ⟨a2, n2, c2, rfl⟩ := h2
  cases sq
  all_goals
    go_enter Tryz.func214, Tryz.ntmps214
    go_wp2
    go_ret
    exact ⟨rfl, (Below.refl _ w).alloc (Nat.le_refl _) _⟩
/-- What askedOf answers. -/
def AskOut (w : World) (t : Tr) (e : Ending) (w' : World) : Prop :=
  ∃ v1 v2, e = .returned (.tuple #[.agg #[.bool t.move, .bool t.del, .bool t.squeeze, v1, v2], .bool true]) ∧ ByAt w' v1 t.one ∧ ByAt w' v2 t.two ∧ Below w.heap.size w w'
theorem infoAs : (Tryz.prog.info? 290).map (·.size) = some 5 := by kernel_rfl
theorem results_as {fn : Func} {p u : Tmp} (h : fn.results = #[.cell p 290, .tmp u]) {tmps : Array Value} {w : World} {b : Nat} {x0 x1 x2 x3 x4 v : Value} (hp : tmps.getD p undef = .pointer (some ⟨b, 0, none⟩)) (hg : w.heap[b]? = some (.cells #[x0, x1, x2, x3, x4] 290))
    (hv : tmps.getD u undef = v) : (results fn tmps).run Tryz.prog w = .ok (.tuple #[.agg #[x0, x1, x2, x3, x4], v]) w := by
  rw [results_cell_tmp h, hp, hv]
  simp [asAddr, Result.andThen, run_loadVar_row w b 290 290 #[x0, x1, x2, x3, x4] (0, 0) _ hg Tryz.underlying290 rfl infoAs]
theorem strs_at0 {v : Value} {a : ByteArray} {r : List ByteArray} (h : StrsAt w v (a :: r)) : ∃ b off cap, v = .slice (some ⟨b, off, none⟩) (r.length + 1) cap ∧ r.length + 1 ≤ cap ∧ b < w.heap.size ∧ (∀ j, j < (a :: r).length → w.cell? ⟨b, off + j, none⟩ = some (.string (nth (a :: r) j))) := by
  rcases h with ⟨_, h⟩ | ⟨b, off, cap, h1, h2, h3, h4⟩
  · cases h
  · exact ⟨b, off, cap, h1, h2.1, h3, h4⟩
theorem row_ty {B b T i : Nat} {v x : Value} {l : List UInt8} {cs : Array Value} (h : Row w B v l) (hb : w.heap[b]? = some (.cells cs T)) (hT : T ≠ 5) : Row (w.setCell ⟨b, i, none⟩ x) B v l := by
  refine ⟨h.1, ?_⟩
  rcases h.2 with hn | ⟨g, cap, cur, h1, hg, hh, r⟩
  · exact .inl hn
  · refine .inr ⟨g, cap, cur, h1, hg, ?_, r⟩
    rw [Below.heap_setCell _ _ _ _ (by
      intro e
      have e : g = b := by simpa using e
      rw [e, hb] at hh
      have := (Option.some.inj hh)
      simp only [Obj.cells.injEq] at this
      exact hT this.2.1)]
    exact hh
theorem set5 {rb T : Nat} {a0 a1 a2 a3 a4 : Value} (h : w.heap[rb]? = some (.cells #[a0, a1, a2, a3, a4] T)) (b0 b1 b2 b3 b4 : Value) :
    (((((w.setCell ⟨rb, 0, none⟩ b0).setCell ⟨rb, 1, none⟩ b1).setCell ⟨rb, 2, none⟩ b2).setCell ⟨rb, 3, none⟩ b3).setCell ⟨rb, 4, none⟩ b4).heap[rb]? = some (.cells #[b0, b1, b2, b3, b4] T) := by
  have := h_set (h_set (h_set (h_set (h_set h 0 b0) 1 b1) 2 b2) 3 b3) 4 b4
  simpa using this
theorem below5 {w0 : World} {B rb : Nat} (h : Below B w0 w) (hb : B ≤ rb) (b0 b1 b2 b3 b4 : Value) :
    Below B w0 (((((w.setCell ⟨rb, 0, none⟩ b0).setCell ⟨rb, 1, none⟩ b1).setCell ⟨rb, 2, none⟩ b2).setCell ⟨rb, 3, none⟩ b3).setCell ⟨rb, 4, none⟩ b4) :=
  ((((h.setCell (p := ⟨rb, 0, none⟩) hb _).setCell (p := ⟨rb, 1, none⟩) hb _).setCell (p := ⟨rb, 2, none⟩) hb _).setCell (p := ⟨rb, 3, none⟩) hb _).setCell (p := ⟨rb, 4, none⟩) hb _
theorem row5 {B rb T : Nat} {v : Value} {l : List UInt8} {a0 a1 a2 a3 a4 : Value} (h : Row w B v l) (hb : w.heap[rb]? = some (.cells #[a0, a1, a2, a3, a4] T)) (hT : T ≠ 5) (b0 b1 b2 b3 b4 : Value) :
    Row (((((w.setCell ⟨rb, 0, none⟩ b0).setCell ⟨rb, 1, none⟩ b1).setCell ⟨rb, 2, none⟩ b2).setCell ⟨rb, 3, none⟩ b3).setCell ⟨rb, 4, none⟩ b4) B v l :=
  row_ty (row_ty (row_ty (row_ty (row_ty h hb hT) (h_set hb 0 b0) hT) (h_set (h_set hb 0 b0) 1 b1) hT) (h_set (h_set (h_set hb 0 b0) 1 b1) 2 b2) hT) (h_set (h_set (h_set (h_set hb 0 b0) 1 b1) 2 b2) 3 b3) hT
theorem row_keep {B C : Nat} {w1 : World} {v : Value} {l : List UInt8} (h : Row w B v l) (hC : ∀ g, v.ownBlock = some g → g < C) (hB : Below C w w1) : Row w1 B v l := by
  refine ⟨h.1, ?_⟩
  rcases h.2 with hn | ⟨g, cap, cur, h1, hg, hh, r⟩
  · exact .inl hn
  · exact .inr ⟨g, cap, cur, h1, hg, (hB.block g (hC g (by rw [h1]; rfl))).trans hh, r⟩
theorem row_lt {B : Nat} {v : Value} {l : List UInt8} (h : Row w B v l) : ∀ g, v.ownBlock = some g → g < w.heap.size := by
  intro g hg
  rcases h.2 with ⟨h1, _⟩ | ⟨g', cap, cur, h1, _, hh, r⟩
  · rw [h1] at hg; cases hg
  · rw [h1] at hg
    have e : g' = g := by simpa [Value.ownBlock] using hg
    rw [← e]
    exact h_lt hh
/-- Behind the two stores of sets. -/
structure As8 (w : World) (ab : Nat) (tr de sq : Bool) (v1 v2 : Value) (l1 l2 : List UInt8) (W : World) : Prop where
  below : Below w.heap.size w W
  res : W.heap[w.heap.size]? = some (.cells #[.bool false, .bool false, .bool false, .slice none 0 0, .slice none 0 0] 290)
  asked : W.heap[ab]? = some (.cells #[.bool tr, .bool de, .bool sq, v1, v2] 290)
  r1 : Row W w.heap.size v1 l1
  r2 : Row W w.heap.size v2 l2
theorem As8.end_ {ab : Nat} {tr de sq : Bool} {v1 v2 : Value} {l1 l2 : List UInt8} {W : World} (h : As8 w ab tr de sq v1 v2 l1 l2 W) :
    AskOut w ⟨de, sq, tr, l1, l2⟩ (.returned (.tuple #[.agg #[.bool tr, .bool de, .bool sq, v1, v2], .bool true])) (((((W.setCell ⟨w.heap.size, 0, none⟩ (.bool tr)).setCell ⟨w.heap.size, 1, none⟩ (.bool de)).setCell ⟨w.heap.size, 2, none⟩ (.bool sq)).setCell ⟨w.heap.size, 3, none⟩ v1).setCell ⟨w.heap.size, 4, none⟩ v2) :=
  ⟨v1, v2, rfl, row_by (row5 h.r1 h.res (by decide) _ _ _ _ _), row_by (row5 h.r2 h.res (by decide) _ _ _ _ _), below5 h.below (Nat.le_refl _) _ _ _ _ _⟩

end
end Go.Proofs.YtfkoehfkiommpaaGreatDoor.Tr

namespace Go.Proofs.YtfkoehfkiommpaaGreatDoor.Tr
open Go.Proofs.YtfkoehfkiommpaaGreatDoor.Op
open Go.RowKit

def arr (n : Nat) (h : Nat → Value) : Array Value := ((List.range n).map h).toArray
theorem arr_size (n : Nat) (h : Nat → Value) : (arr n h).size = n := by simp [arr]
theorem arr_at {n : Nat} (h : Nat → Value) {i : Nat} (hi : i < n) : (arr n h)[i]? = some (h i) := by simp [arr, hi]
theorem arr_eq {n : Nat} {f g : Nat → Value} (h : ∀ i, i < n → f i = g i) : arr n f = arr n g := by
  unfold arr
  congr 1
  apply List.map_congr_left
  intro i hi
  rw [h i (by simpa using hi)]
theorem arr_one {n : Nat} {h : Nat → Value} (h1 : ∀ i, (h i).oneCell' = true) : (arr n h).all (·.oneCell') = true := by
  rw [Array.all_eq_true_iff_forall_mem]
  intro v hv
  simp [arr] at hv
  obtain ⟨i, _, rfl⟩ := hv
  exact h1 i
theorem arr_set {n : Nat} (f : Nat → Value) (c : Nat) (b : Value) : (arr n f).setIfInBounds c b = arr n fun i => if i = c then b else f i := by
  apply Array.ext_getElem?
  intro i
  rw [Array.getElem?_setIfInBounds]
  by_cases hi : i < n
  · by_cases hc : c = i
    · subst hc
      rw [if_pos rfl, arr_size, if_pos hi, arr_at _ hi, if_pos rfl]
    · rw [if_neg hc, arr_at _ hi, arr_at _ hi, if_neg (fun e => hc e.symm)]
  · have h2 : ∀ f, (arr n f)[i]? = none := fun f => Array.getElem?_eq_none (by rw [arr_size]; omega)
    rw [h2, h2, arr_size]
    split
    · split
      · omega
      · rfl
    · rfl
/-- A byte's fate: what it becomes, whether it is gone, whether it stands there once. -/
def faH (bc : Nat → UInt8) (g o : Nat → Bool) (i : Nat) : Value := if i % 3 = 0 then .int .u8 ((bc (i / 3)).toNat : Int) else if i % 3 = 1 then .bool (g (i / 3)) else .bool (o (i / 3))
def faA (bc : Nat → UInt8) (g o : Nat → Bool) : Array Value := arr 768 (faH bc g o)
theorem faA_one (bc : Nat → UInt8) (g o : Nat → Bool) : (faA bc g o).all (·.oneCell') = true := arr_one fun i => by
  unfold faH
  split
  · rfl
  · split <;> rfl
theorem faA_size (bc : Nat → UInt8) (g o : Nat → Bool) : (faA bc g o).size = 768 := arr_size _ _
abbrev FaAt (w : World) (b : Nat) (bc : Nat → UInt8) (g o : Nat → Bool) : Prop := w.heap[b]? = some (.cells (faA bc g o) 241)
theorem faA_eq {bc bc2 : Nat → UInt8} {g g2 o o2 : Nat → Bool} (h1 : ∀ c, c < 256 → bc c = bc2 c) (h2 : ∀ c, c < 256 → g c = g2 c) (h3 : ∀ c, c < 256 → o c = o2 c) : faA bc g o = faA bc2 g2 o2 := arr_eq fun i hi => by
  unfold faH
  rw [h1 (i / 3) (by omega), h2 (i / 3) (by omega), h3 (i / 3) (by omega)]
section
variable {w : World} {b : Nat} {bc : Nat → UInt8} {g o : Nat → Bool} {c : Nat}
theorem fa_eq {bc2 : Nat → UInt8} {g2 o2 : Nat → Bool} (h : FaAt w b bc g o) (h1 : ∀ c, c < 256 → bc c = bc2 c) (h2 : ∀ c, c < 256 → g c = g2 c) (h3 : ∀ c, c < 256 → o c = o2 c) : FaAt w b bc2 g2 o2 := by
  have := faA_eq h1 h2 h3
  show _ = some (Obj.cells (faA bc2 g2 o2) 241)
  rw [← this]
  exact h
theorem fa0 (h : FaAt w b bc g o) (hc : c < 256) : w.cell? ⟨b, c * 3, none⟩ = some (.int .u8 ((bc c).toNat : Int)) := by
  refine h_cell h (c * 3) ((arr_at _ (by omega)).trans ?_)
  rw [faH, if_pos (by omega), show c * 3 / 3 = c by omega]
theorem fa1 (h : FaAt w b bc g o) (hc : c < 256) : w.cell? ⟨b, c * 3 + 1, none⟩ = some (.bool (g c)) := by
  refine h_cell h (c * 3 + 1) ((arr_at _ (by omega)).trans ?_)
  rw [faH, if_neg (by omega), if_pos (by omega), show (c * 3 + 1) / 3 = c by omega]
theorem fa2 (h : FaAt w b bc g o) (hc : c < 256) : w.cell? ⟨b, c * 3 + 2, none⟩ = some (.bool (o c)) := by
  refine h_cell h (c * 3 + 2) ((arr_at _ (by omega)).trans ?_)
  rw [faH, if_neg (by omega), if_neg (by omega), show (c * 3 + 2) / 3 = c by omega]
theorem fa_set0 (h : FaAt w b bc g o) (x : UInt8) : FaAt (w.setCell ⟨b, c * 3, none⟩ (.int .u8 (x.toNat : Int))) b (fun i => if i = c then x else bc i) g o := by
  have := h_set h (c * 3) (.int .u8 (x.toNat : Int))
  rw [faA, arr_set] at this
  rw [show FaAt _ b _ g o = ((w.setCell ⟨b, c * 3, none⟩ (.int .u8 (x.toNat : Int))).heap[b]? = some (Obj.cells (faA (fun i => if i = c then x else bc i) g o) 241)) from rfl, this]
  refine congrArg (fun a => some (Obj.cells a 241)) (arr_eq fun i _ => ?_)
  simp only [faH]
  by_cases e : i = c * 3
  · subst e
    rw [if_pos rfl, if_pos (by omega), if_pos (by omega)]
  · rw [if_neg e]
    by_cases e2 : i % 3 = 0
    · rw [if_pos e2, if_pos e2, if_neg (by omega)]
    · rw [if_neg e2, if_neg e2]
theorem fa_set1 (h : FaAt w b bc g o) (x : Bool) : FaAt (w.setCell ⟨b, c * 3 + 1, none⟩ (.bool x)) b bc (fun i => if i = c then x else g i) o := by
  have := h_set h (c * 3 + 1) (.bool x)
  rw [faA, arr_set] at this
  rw [show FaAt _ b bc _ o = ((w.setCell ⟨b, c * 3 + 1, none⟩ (.bool x)).heap[b]? = some (Obj.cells (faA bc (fun i => if i = c then x else g i) o) 241)) from rfl, this]
  refine congrArg (fun a => some (Obj.cells a 241)) (arr_eq fun i _ => ?_)
  simp only [faH]
  by_cases e : i = c * 3 + 1
  · subst e
    rw [if_pos rfl, if_neg (by omega), if_pos (by omega), if_pos (by omega)]
  · rw [if_neg e]
    by_cases e2 : i % 3 = 1
    · rw [if_neg (by omega), if_pos e2, if_neg (by omega), if_pos e2, if_neg (by omega)]
    · rw [if_neg e2]
      by_cases e3 : i % 3 = 0
      · rw [if_pos e3, if_pos e3]
      · rw [if_neg e3, if_neg e3, if_neg e2]
theorem fa_set2 (h : FaAt w b bc g o) (x : Bool) : FaAt (w.setCell ⟨b, c * 3 + 2, none⟩ (.bool x)) b bc g (fun i => if i = c then x else o i) := by
  have := h_set h (c * 3 + 2) (.bool x)
  rw [faA, arr_set] at this
  rw [show FaAt _ b bc g _ = ((w.setCell ⟨b, c * 3 + 2, none⟩ (.bool x)).heap[b]? = some (Obj.cells (faA bc g (fun i => if i = c then x else o i)) 241)) from rfl, this]
  refine congrArg (fun a => some (Obj.cells a 241)) (arr_eq fun i _ => ?_)
  simp only [faH]
  by_cases e : i = c * 3 + 2
  · subst e
    rw [if_pos rfl, if_neg (by omega), if_neg (by omega), if_pos (by omega)]
  · rw [if_neg e]
    by_cases e3 : i % 3 = 0
    · rw [if_pos e3, if_pos e3]
    · rw [if_neg e3, if_neg e3]
      by_cases e2 : i % 3 = 1
      · rw [if_pos e2, if_pos e2]
      · rw [if_neg e2, if_neg e2, if_neg (by omega)]
theorem faA_zero : Tryz.zeroCells241 = faA (fun _ => 0) (fun _ => false) (fun _ => false) := by kernel_rfl
theorem infoFa : (Tryz.prog.info? 241).map (·.size) = some 768 := by kernel_rfl
theorem fa_new (w : World) : FaAt (w.alloc (.cells Tryz.zeroCells241 241)) w.heap.size (fun _ => 0) (fun _ => false) (fun _ => false) := by
  show _ = some (Obj.cells (faA (fun _ => 0) (fun _ => false) (fun _ => false)) 241)
  rw [← faA_zero]
  exact heap_alloc_last w _
end
/-- What bytes become, behind so many of the first set. -/
def becK (one two : List UInt8) (mv : Bool) : Nat → Nat → UInt8
  | 0, c => UInt8.ofNat c
  | k + 1, c => if mv = true ∧ c = (one[k]?.getD 0).toNat then two[min k (two.length - 1)]?.getD 0 else becK one two mv k c
theorem lastAt_snoc : ∀ (l : List UInt8) (x b : UInt8), lastAt (l ++ [x]) b = if x = b then some l.length else lastAt l b
  | [], x, b => by
    simp only [List.nil_append, lastAt]
    split <;> rfl
  | a :: r, x, b => by
    rw [List.cons_append, lastAt, lastAt_snoc r x b]
    by_cases e : x = b
    · rw [if_pos e, if_pos e]
      rfl
    · rw [if_neg e, if_neg e, lastAt]
theorem becK_take (one two : List UInt8) (h2 : two ≠ []) : ∀ (k : Nat), k ≤ one.length → ∀ c, c < 256 → becK one two true k c = becomesS (one.take k) two (UInt8.ofNat c)
  | 0, _, c, _ => by simp [becK, becomesS, lastAt]
  | k + 1, hk, c, hc => by
    have hx : one[k]? = some one[k] := List.getElem?_eq_getElem (by omega)
    rw [becK, List.take_succ_eq_append_getElem (by omega), becomesS, lastAt_snoc, hx]
    simp only [Option.getD_some, true_and]
    by_cases e : c = one[k].toNat
    · have e2 : one[k] = UInt8.ofNat c := by rw [e]; simp
      rw [if_pos e, if_pos e2]
      have hl := List.length_pos_iff.2 h2
      have hm : (one.take k).length = k := by rw [List.length_take]; omega
      simp only [hm]
      by_cases hkl : k < two.length
      · rw [if_pos hkl, show min k (two.length - 1) = k by omega, List.getElem?_eq_getElem hkl]
        rfl
      · rw [if_neg hkl, show min k (two.length - 1) = two.length - 1 by omega, ← List.getLast?_eq_getElem?]
        obtain ⟨z, hz⟩ : ∃ z, two.getLast? = some z := by
          cases hq : two.getLast? with
          | none => exact absurd (List.getLast?_eq_none_iff.1 hq) h2
          | some z => exact ⟨z, rfl⟩
        rw [hz]
        rfl
    · have e2 : ¬ one[k] = UInt8.ofNat c := fun h => e (by rw [h]; simp; omega)
      rw [if_neg e, if_neg e2, becK_take one two h2 k (by omega) c hc]
      rfl
theorem becK_still (one two : List UInt8) : ∀ (k c : Nat), becK one two false k c = UInt8.ofNat c
  | 0, _ => rfl
  | k + 1, c => by rw [becK, if_neg (by simp), becK_still one two k c]
end Go.Proofs.YtfkoehfkiommpaaGreatDoor.Tr
