/- A reader of stepio in both passes of main: how it lies; what is let go. -/
import Derived.Deep.Upon
import Derived.Test.YtfkoehfkiommpaaGreatDoorSWrite2
import Derived.Deep.DeepCutAuto
namespace Go.Proofs.YtfkoehfkiommpaaGreatDoor
open Go.RowKit Go.Shelf Go.Maps

/-- A reader's own cells. -/
abbrev RdAt (w : World) (r p : Nat) (fd l1 l2 l3 : Int) (av : Value) (last : Int) (feed ended : Bool) : Prop :=
  w.heap[r]? = some (.cells #[ptr p, .int .i64 fd, .int .i64 l1, .int .i64 l2, .int .i64 l3, av, .int .i64 last, .bool feed, .bool ended] 325)
/-- Bytes that stand ahead, with the room behind them. -/
def Ahead (w : World) (av : Value) (ah : List UInt8) : Prop :=
  (av = .slice none 0 0 ∧ ah = []) ∨ ∃ g off cap, av = .slice (some ⟨g, off, none⟩) ah.length cap ∧ g < w.heap.size ∧ Came w 1 (some ⟨g, off, none⟩) g off ah.length cap (u8s ah) ∧ cap ≤ maxLen
/-- A reader. -/
structure RdI (E : Ev) (w : World) (r : Nat) (av : Value) (ah : List UInt8) (last : Int) (feed ended : Bool) (M : List Nat) : Prop where
  cs : RdAt w r E.G.p 0 E.G.l1 E.G.l2 E.G.l3 av last feed ended
  ah : Ahead w av ah
  ne : av.ownBlock ≠ some r
  dis : ∀ b ∈ M, b ≠ r ∧ av.ownBlock ≠ some b
  new : E.W0.heap.size ≤ r ∧ ∀ g, av.ownBlock = some g → E.W0.heap.size ≤ g
  last0 : 0 ≤ last
/-- Its blocks. -/
def rdL (r : Nat) (av : Value) : List Nat := r :: av.ownBlock.toList

theorem came_turn {w w' : World} {ao : Option Addr} {b off len cap : Nat} {olds : List Value} {S : List Nat} (h : Came w 1 ao b off len cap olds) (hT : Turn S w w') (hb : b ∉ S) : Came w' 1 ao b off len cap olds where
  le := h.le
  addr := h.addr
  lt := fun hc => Nat.lt_of_lt_of_le (h.lt hc) hT.size
  oldsLen := h.oldsLen
  olds := fun j u hj => hT.cell (h.olds j u hj) hb
  spare := fun j hj => by
    obtain ⟨h1, h2⟩ := h.spare j hj
    obtain ⟨v, hv⟩ := Option.isSome_iff_exists.1 h1
    have hlt := World.block_lt_of_cell? _ _ hv
    refine ⟨by rw [hT.cell hv hb]; rfl, ?_⟩
    rw [World.frozen?_of_block (hT.block b hlt hb)]
    exact h2
theorem Ahead.turn {w w' : World} {av : Value} {ah : List UInt8} {S : List Nat} (h : Ahead w av ah) (hT : Turn S w w') (hb : ∀ g, av.ownBlock = some g → g ∉ S) : Ahead w' av ah := by
  rcases h with h | ⟨g, off, cap, rfl, h1, h2, h3⟩
  · exact .inl h
  · exact .inr ⟨g, off, cap, rfl, Nat.lt_of_lt_of_le h1 hT.size, came_turn h2 hT (hb g rfl), h3⟩
theorem Ahead.by' {w : World} {av : Value} {ah : List UInt8} (h : Ahead w av ah) : ByAt w av ah := by
  rcases h with h | ⟨g, off, cap, rfl, h1, h2, h3⟩
  · exact .inl h
  · refine .inr ⟨g, off, cap, rfl, ⟨h2.le, by unfold maxLen at h3; omega⟩, h1, fun j hj => h2.olds j _ ?_⟩
    simp [u8s, hj]
theorem Ahead.shape {w : World} {av : Value} {ah : List UInt8} (h : Ahead w av ah) : ∃ x c, av = .slice x ah.length c ∧ c ≤ maxLen ∧ ah.length ≤ c := by
  rcases h with ⟨rfl, rfl⟩ | ⟨g, off, cap, rfl, h1, h2, h3⟩
  · exact ⟨none, 0, rfl, by unfold maxLen; omega, Nat.le_refl _⟩
  · exact ⟨_, cap, rfl, h3, h2.le⟩
section
variable {E : Ev} {md : Option Bool} {w : World} {s : Sx} {M : List Nat} {r : Nat} {av : Value} {ah : List UInt8} {last : Int} {feed ended : Bool}
theorem RdI.turn (h : RdI E w r av ah last feed ended M) {w' : World} (hk : Kept (rdL r av ++ M) w w') : RdI E w' r av ah last feed ended M := by
  obtain ⟨S, hT, hS⟩ := hk
  have hr : r ∉ S := hS r (by simp [rdL])
  exact ⟨hT.ob h.cs hr, h.ah.turn hT (fun g hg => hS g (by simp [rdL, hg])), h.ne, h.dis, h.new, h.last0⟩
/-- A cell of the reader's own is turned, behind a call. -/
theorem RdI.put (h : RdI E w r av ah last feed ended M) (hp : PS E md w s (rdL r av ++ M)) {i : Nat} {v : Value} {last' : Int} {feed' ended' : Bool} (h0 : 0 ≤ last')
    (hc : RdAt (w.setCell ⟨r, i, none⟩ v) r E.G.p 0 E.G.l1 E.G.l2 E.G.l3 av last' feed' ended') : RdI E (w.setCell ⟨r, i, none⟩ v) r av ah last' feed' ended' M ∧ PS E md (w.setCell ⟨r, i, none⟩ v) s (rdL r av ++ M) ∧ Kept M w (w.setCell ⟨r, i, none⟩ v) := by
  have hT : Turn [r] w (w.setCell ⟨r, i, none⟩ v) := Turn.set _ _ _ _ (by simp)
  refine ⟨⟨hc, h.ah.turn hT (fun g hg e => h.ne (by simp at e; rw [hg, e])), h.ne, h.dis, h.new, h0⟩, hp.own hT (fun b hb => ?_) (fun b hb => .inl hb), [r], hT, fun b hb => by simpa using (h.dis b hb).1⟩
  obtain rfl : b = r := by simpa using hb
  exact ⟨h.new.1, .inl (by simp [rdL])⟩

set_option maxRecDepth 100000 in
set_option maxHeartbeats 2000000 in
theorem leaveLast_c (hp : PS E md w s (rdL r av ++ M)) (h : RdI E w r av ah last feed ended M) :
    Calls Tryz.prog 220 #[ptr r] w fun e w' => (∃ v, e = .returned v) ∧ PS E md w' (s.drops last) (rdL r av ++ M) ∧ RdI E w' r av ah 0 feed ended M ∧ Kept M w w' := by
  have c0 : w.cell? ⟨r, 0, none⟩ = some (ptr E.G.p) := h_cell h.cs 0 rfl
  have c6 : w.cell? ⟨r, 6, none⟩ = some (.int .i64 last) := h_cell h.cs 6 rfl
  have hd : ∀ q, Calls Tryz.prog 241 #[ptr E.G.p, .int .i64 last] (w.drewN q) fun e w' => e = .returned (.tuple #[]) ∧ PS E md w' (s.drops last) (rdL r av ++ M) ∧ Kept (rdL r av ++ M) w w' := fun q => by
    have hT : Turn [] w (w.drewN q) := (Turn.refl [] w).drewN q
    refine ((hp.own (N := rdL r av ++ M) hT (by simp) (fun b hb => .inl hb)).drop last h.last0).mono ?_
    rintro e w' ⟨h1, h2, h3⟩
    exact ⟨h1, h2, Kept.trans ⟨[], hT, by simp⟩ h3⟩
  have HH := Lib.hid h
  clear h hp
  go_enter Tryz.func220, Tryz.ntmps220
  go_wp2_with fail
  go_region_with (go_at_call 241; refine (hd 1).mono ?_; rintro e w1 ⟨rfl, hp1, hk1⟩; have h1 := HH.out.turn hk1; have d6 : w1.cell? ⟨r, 6, none⟩ = some (.int .i64 last) := h_cell h1.cs 6 rfl; have z6 := h_fz h1.cs 6)
  all_goals
    go_wp2
    go_end0
    obtain ⟨h2, hp2, hk2⟩ := h1.put hp1 (i := 6) (v := .int .i64 0) (Int.le_refl 0) (by simpa using h_set h1.cs 6 (.int .i64 0))
    exact ⟨⟨_, rfl⟩, hp2, h2, (hk1.less (fun x hx => List.mem_append_right _ hx)).trans hk2⟩
end

theorem readS_cases (l : List (Int × Int)) (k : KC) (most : Nat) (hm : 1 ≤ most) (hu : k.used ≤ l.length) :
    (∃ (n u' : Nat), readS l k most = (⟨0, k.rest.take n, 0⟩, { k with used := u', rest := k.rest.drop n }) ∧ 1 ≤ n ∧ n ≤ most ∧ k.used ≤ u' ∧ u' ≤ l.length ∧ u' ≤ k.used + 1) ∨ (readS l k most = (⟨0, [], 9⟩, { k with used := k.used + 1 }) ∧ k.used + 1 ≤ l.length) := by
  unfold readS
  rcases befS_cases l k.used most (by omega) hu with ⟨n, u', e, h1, h2, h3, h4, h5, _⟩ | ⟨e, h1⟩
  · rw [e]
    obtain ⟨m, rfl⟩ : ∃ m : Nat, n = m := ⟨n.toNat, by omega⟩
    exact .inl ⟨m, u', by simp, by omega, by omega, h3, h4, h5⟩
  · rw [e]
    exact .inr ⟨by simp, h1⟩
/-- What a Read has come to, as often as it was interrupted. -/
structure RdTo (l : List (Int × Int)) (s s' : Sx) (most : Nat) (bs : List UInt8) : Prop where
  k : ∃ u, s'.k = { s.k with used := u, rest := s.k.rest.drop bs.length } ∧ s.k.used ≤ u ∧ u ≤ l.length ∧ s'.steps ≤ s.steps + 1 + (u - s.k.used : Nat)
  cut : bs = s.k.rest.take bs.length
  le : bs.length ≤ most
  none : bs = [] → s.k.rest = []
  held : s'.held = s.held
  peak : s'.peak = s.peak
  steps : s.steps ≤ s'.steps
/-- It was interrupted. -/
structure RdNo (l : List (Int × Int)) (s s' : Sx) (u : Nat) : Prop where
  k : s'.k = { s.k with used := u }
  fit : s.k.used ≤ u ∧ u ≤ l.length
  held : s'.held = s.held
  peak : s'.peak = s.peak
  steps : s.steps ≤ s'.steps ∧ s'.steps ≤ s.steps + (u - s.k.used : Nat)
theorem RdNo.refl {l : List (Int × Int)} {s : Sx} (h : s.k.used ≤ l.length) : RdNo l s s s.k.used := ⟨rfl, ⟨Nat.le_refl _, h⟩, rfl, rfl, Int.le_refl _, by simp⟩
theorem RdNo.more {l : List (Int × Int)} {s s' : Sx} {u : Nat} (h : RdNo l s s' u) (hu : u + 1 ≤ l.length) : RdNo l s (s'.did { s'.k with used := s'.k.used + 1 }) (u + 1) := by
  have e : s'.k.used = u := by rw [h.k]
  have := h.fit
  have := h.steps
  refine ⟨by show { s'.k with used := s'.k.used + 1 } = _; rw [h.k], ⟨by omega, hu⟩, h.held, h.peak, ?_⟩
  show s.steps ≤ s'.steps + 1 ∧ s'.steps + 1 ≤ _
  omega
theorem RdNo.to {l : List (Int × Int)} {s s' : Sx} {u n u' most : Nat} (h : RdNo l s s' u) (h1 : 1 ≤ n) (h2 : n ≤ most) (h3 : u ≤ u') (h4 : u' ≤ l.length) : RdTo l s (s'.did { s'.k with used := u', rest := s'.k.rest.drop n }) most (s'.k.rest.take n) := by
  have e : s'.k.rest = s.k.rest := by rw [h.k]
  have := h.fit
  have := h.steps
  have hl : (s.k.rest.take n).length = min n s.k.rest.length := List.length_take
  rw [e]
  refine ⟨⟨u', ?_, by omega, h4, ?_⟩, ?_, by rw [hl]; omega, fun e0 => ?_, h.held, h.peak, ?_⟩
  · show { s'.k with used := u', rest := s.k.rest.drop n } = _
    rw [h.k, hl]
    congr 1
    by_cases hh : n ≤ s.k.rest.length
    · rw [Nat.min_eq_left hh]
    · rw [Nat.min_eq_right (by omega), List.drop_eq_nil_of_le (by omega), List.drop_length]
  · show s'.steps + 1 ≤ _
    omega
  · rw [hl]
    by_cases hh : n ≤ s.k.rest.length
    · rw [Nat.min_eq_left hh]
    · rw [Nat.min_eq_right (by omega), List.take_of_length_le (by omega), List.take_length]
  · rw [List.take_eq_nil_iff] at e0
    rcases e0 with e0 | e0
    · omega
    · exact e0
  · show s.steps ≤ s'.steps + 1
    omega
section
variable {E : Ev} {md : Option Bool} {w : World} {s : Sx} {M : List Nat}
theorem PS.drewN (h : PS E md w s M) (q : Nat) : PS E md (w.drewN q) s M := h.own (N := M) ((Turn.refl [] w).drewN q) (by simp) (fun b hb => .inl hb)
theorem Kept.drewN {w' : World} (h : Kept M w w') (q : Nat) : Kept M w (w'.drewN q) := h.trans ⟨[], (Turn.refl [] w').drewN q, by simp⟩
theorem Kept.drewB {w' : World} (q : Nat) (h : Kept M (w.drewN q) w') : Kept M w w' := Kept.trans ⟨[], (Turn.refl [] w).drewN q, by simp⟩ h
end
end Go.Proofs.YtfkoehfkiommpaaGreatDoor

namespace Go.Proofs.YtfkoehfkiommpaaGreatDoor
open Go.RowKit Go.Shelf Go.Maps

theorem turn_setCells {S : List Nat} (g : Nat) (hg : g ∈ S) : ∀ (vs : List Value) (o : Nat) (w : World), Turn S w (w.setCells g o vs)
  | [], _, w => Turn.refl S w
  | v :: vs, o, w => (Turn.set w g o v hg).trans (turn_setCells g hg vs (o + 1) _)
theorem u8s_append (a b : List UInt8) : u8s (a ++ b) = u8s a ++ u8s b := by simp [u8s]

theorem append_ah {W : World} {av xv : Value} {ah bs : List UInt8} (hA : Ahead W av ah) (hs : Go.Src Tryz.prog 1 23 xv bs.length (u8s bs) W) (hl : ah.length + bs.length ≤ 1048576) (ty : TypeId) :
    ∃ v' W', (Builtin.append_ #[23, 23] ty #[av, xv]).run Tryz.prog W = .ok v' W' ∧ Ahead W' v' (ah ++ bs) ∧ Turn av.ownBlock.toList W W' ∧ ∀ g, v'.ownBlock = some g → av.ownBlock = some g ∨ (W.heap.size ≤ g ∧ g < W'.heap.size) := by
  obtain ⟨i5, hi5, hz0, hz1, hz2⟩ := info_parts info5
  have hu : Tryz.prog.underlying 23 = some (.slice 5) := Tryz.underlying23
  -- a new row
  have grow : ∀ (base : Option Addr) (cap : Nat), av = .slice base ah.length cap → cap < ah.length + bs.length → (Builtin.firstCells i5.size ah.length (.slice base ah.length cap)).run Tryz.prog W.drew = .ok (u8s ah).toArray W.drew →
      ∃ v' W', (Builtin.append_ #[23, 23] ty #[av, xv]).run Tryz.prog W = .ok v' W' ∧ Ahead W' v' (ah ++ bs) ∧ Turn av.ownBlock.toList W W' ∧ ∀ g, v'.ownBlock = some g → av.ownBlock = some g ∨ (W.heap.size ≤ g ∧ g < W'.heap.size) := by
    rintro base cap rfl hg hold
    have hrun := run_append_grow_src (P := Tryz.prog) W 23 23 ty 5 i5 (.int .u8 0) hu hi5 hz0 base ah.length cap (u8s ah) hold xv bs.length (u8s bs) (by rw [hz1]; exact hs) hg (by omega) (growslice_fits hg (by rw [hz2]; omega))
    have hge := grownCap_ge W (ah.length + bs.length) cap 5
    have hcm := grownCap_le_maxLen W (ah.length + bs.length) cap 5 (by unfold maxLen; omega)
    refine ⟨_, _, hrun, .inr ⟨W.heap.size, 0, grownCap W (ah.length + bs.length) cap 5, by rw [List.length_append], by simp, ?_, hcm⟩, ?_, fun g hg' => .inr ?_⟩
    · have e1 : ∀ j, (W.drew.alloc (.cells ((u8s ah ++ u8s bs).toArray ++ Builtin.zeroCells (Value.int .u8 0).cells (grownCap W (ah.length + bs.length) cap 5 - (ah.length + bs.length))) 5)).cell? ⟨W.heap.size, j, none⟩ = _ := fun j => World.cell?_alloc_new W.drew _ _ j
      have hL : (u8s ah ++ u8s bs).length = ah.length + bs.length := by rw [List.length_append, u8s_length, u8s_length]
      refine ⟨by rw [List.length_append]; exact hge, fun _ => rfl, fun _ => by simp, by rw [u8s_length]; simp, fun j u hj => ?_, fun j hj => ⟨?_, World.frozen?_alloc_new W.drew _ _ _⟩⟩
      · rw [Nat.zero_add, e1, Array.getElem?_append_left (by simp only [List.size_toArray]; have := (List.getElem?_eq_some_iff.1 hj).1; rw [u8s_append] at this; exact this), List.getElem?_toArray, ← u8s_append]
        exact hj
      · rw [e1]
        have hsz : ((u8s ah ++ u8s bs).toArray ++ Builtin.zeroCells (Value.int .u8 0).cells (grownCap W (ah.length + bs.length) cap 5 - (ah.length + bs.length))).size = grownCap W (ah.length + bs.length) cap 5 := by
          rw [Array.size_append, List.size_toArray, hL, size_zeroCells]
          simp [Value.cells]
          omega
        rw [List.length_append] at hj ⊢
        rw [Array.getElem?_eq_getElem (by rw [hsz]; omega)]
        rfl
    · exact (Turn.refl _ W).drew.trans (Turn.alloc _ _)
    · have e : W.heap.size = g := by simpa [Value.ownBlock] using hg'
      exact ⟨by omega, by rw [← e]; simp⟩
  rcases hA with ⟨rfl, rfl⟩ | ⟨g, off, cap, rfl, hglt, hc, hcm⟩
  · by_cases h0 : bs = []
    · subst h0
      exact ⟨_, _, run_append_nothing (P := Tryz.prog) W 23 23 ty 5 i5 hu hi5 none 0 0 (Nat.le_refl _) xv (by rw [hz1]; exact hs), .inl ⟨rfl, rfl⟩, Turn.refl _ _, fun g hg => .inl hg⟩
    · refine grow none 0 rfl (by have := List.length_pos_iff.2 h0; simp; omega) ?_
      rw [hz1]
      exact run_firstCells_none W.drew 1 0 0 0
  · by_cases hroom : ah.length + bs.length ≤ cap
    · have hsp : ∀ j, j < (u8s bs).length → (W.cell? ⟨g, off + ah.length * i5.size + j, none⟩).isSome = true ∧ W.frozen? ⟨g, off + ah.length * i5.size + j, none⟩ = false := fun j hj => by
        rw [u8s_length] at hj
        rw [hz1]
        exact hc.spare j (by omega)
      have hrun := run_append_room_src (P := Tryz.prog) W 23 23 ty 5 i5 hu hi5 g off ah.length cap xv bs.length (u8s bs) (by rw [hz1]; exact hs) hroom (fun j hj => (hsp j hj).1) (fun j hj => (hsp j hj).2)
      rw [hz1, Nat.mul_one] at hrun hsp
      refine ⟨_, _, hrun, .inr ⟨g, off, cap, by rw [List.length_append], Nat.lt_of_lt_of_le hglt (turn_setCells (S := [g]) g (by simp) _ _ _).size, ?_, hcm⟩, turn_setCells g (by simp [Value.ownBlock]) _ _ _, fun g' hg' => .inl hg'⟩
      refine ⟨by rw [List.length_append]; exact hroom, fun _ => rfl, fun _ => Nat.lt_of_lt_of_le hglt (turn_setCells (S := [g]) g (by simp) _ _ _).size, by rw [u8s_length]; simp, fun j u hj => ?_, fun j hj => ?_⟩
      · rw [u8s_append] at hj
        by_cases hlt : j < ah.length
        · rw [World.cell?_setCells_out g _ _ _ _ (fun _ _ => .inl (by show off + j < off + ah.length; omega))]
          rw [List.getElem?_append_left (by rw [u8s_length]; exact hlt)] at hj
          exact hc.olds j u hj
        · rw [List.getElem?_append_right (by rw [u8s_length]; omega), u8s_length] at hj
          have hjl := (List.getElem?_eq_some_iff.1 hj).1
          have := World.cell?_setCells_in g (u8s bs) (off + ah.length) W (fun j hj => (hsp j hj).1) (j - ah.length) hjl
          rw [show off + ah.length + (j - ah.length) = off + j by omega] at this
          rw [this, ← hj, List.getElem?_eq_getElem hjl]
      · rw [List.length_append] at hj ⊢
        have hs2 := hc.spare (bs.length + j) (by omega)
        rw [World.frozen?_setCells, World.cell?_setCells_out g _ _ _ _ (fun _ _ => .inr (by rw [u8s_length]; show off + ah.length + bs.length ≤ off + (ah.length + bs.length) * 1 + j; omega))]
        rw [show off + ah.length * 1 + (bs.length + j) = off + (ah.length + bs.length) * 1 + j by omega] at hs2
        exact hs2
    · refine grow _ cap rfl (by omega) ?_
      rw [hz1]
      exact run_firstCells_some W.drew 1 ah.length ⟨g, off, none⟩ ah.length cap (u8s ah) (by rw [u8s_length]; simp) (fun j u hj => by rw [Addr.add_lit]; exact hc.olds j u hj)
end Go.Proofs.YtfkoehfkiommpaaGreatDoor

namespace Go.Proofs.YtfkoehfkiommpaaGreatDoor
open Go.RowKit Go.Shelf Go.Maps

theorem wpList_append_run {ops : Array Oper} {rest : List Oper} {o : Oper} {a : Act} {Q : Exit → Act → World → Prop} {w w' : World} (hgd : o.guard = none) (s x : Operand) (t tx : TypeId) (ho : o.op = .call { callee := .builtin .append, args := #[s, x], argTypes := #[t, tx] })
    {v xv v' : Value} (hv : a.eval s = v) (hx : a.eval x = xv) (hrun : (Builtin.append_ #[t, tx] o.type #[v, xv]).run Tryz.prog w = .ok v' w') (hK : wpList Tryz.prog ops Q rest (a.put o.dst v') w') : wpList Tryz.prog ops Q (o :: rest) a w := by
  refine wpList_plain hgd fun K hK' => ?_
  unfold Oper.wp
  simp [execOp, ho, resolve, invoke, builtin, hv, hx, hrun, Result.andThen]
  exact hK' _ _ hK
theorem src_row {w : World} {B n : Nat} {bv : Value} {bs : List UInt8} (h : w.ownsRow B 5 1 bv n (u8s bs)) : n = bs.length ∧ Go.Src Tryz.prog 1 23 bv bs.length (u8s bs) w := by
  obtain ⟨hl, h1⟩ := row_split h
  rcases h1 with ⟨rfl, h0⟩ | ⟨g, cap, rfl, _, hg, h2, h3, h4⟩
  · have : bs = [] := List.length_eq_zero_iff.1 (by omega)
    subst this
    exact ⟨by simpa using h0, Src.ofNil w (e' := 5) Tryz.underlying23 0⟩
  · subst hl
    refine ⟨rfl, Src.ofSlice w (e' := 5) Tryz.underlying23 ⟨g, 0, none⟩ _ cap (u8s bs) (by rw [u8s_length]; simp) (fun j u hu => ?_) (u8s_one bs)⟩
    have hj : j < bs.length := by have := (List.getElem?_eq_some_iff.1 hu).1; rw [u8s_length] at this; exact this
    rw [Addr.add_lit, Nat.zero_add, h4 j hj, ← hu]
    simp [u8s, hj]
theorem RdI.widen {E : Ev} {w : World} {r : Nat} {av : Value} {ah : List UInt8} {last : Int} {feed ended : Bool} {M L : List Nat} (h : RdI E w r av ah last feed ended M) (hL : ∀ b ∈ L, b ≠ r ∧ av.ownBlock ≠ some b) : RdI E w r av ah last feed ended (L ++ M) :=
  ⟨h.cs, h.ah, h.ne, fun b hb => (List.mem_append.1 hb).elim (hL b) (h.dis b), h.new, h.last0⟩
/-- What was read is laid behind what stands ahead. -/
structure RdApp (E : Ev) (W1 W3 : World) (s1 : Sx) (r : Nat) (v' : Value) (ahs : List UInt8) (last : Int) (feed ended : Bool) (M : List Nat) : Prop where
  rd : RdI E W3 r v' ahs last feed ended M
  ps : PS E (some false) W3 s1 (rdL r v' ++ M)
  kp : Kept M W1 W3
theorem rd_app {E : Ev} {W1 : World} {s1 : Sx} {r : Nat} {av bv : Value} {ah bs : List UInt8} {last : Int} {feed ended : Bool} {M : List Nat} {B : Nat} (h : RdI E W1 r av ah last feed ended M) (hp : PS E (some false) W1 s1 (rdL r av ++ M)) (ho : W1.ownsRow B 5 1 bv bs.length (u8s bs)) (hl : ah.length + bs.length ≤ 1048576) (ty : TypeId) :
    ∃ x n c W2, (Builtin.append_ #[23, 23] ty #[av, bv]).run Tryz.prog W1 = .ok (.slice x n c) W2 ∧ W2.cell? ⟨r, 5, none⟩ = some av ∧ W2.frozen? ⟨r, 5, none⟩ = false ∧ RdApp E W1 (W2.setCell ⟨r, 5, none⟩ (.slice x n c)) s1 r (.slice x n c) (ah ++ bs) last feed ended M := by
  obtain ⟨v', W2, hrun, hA, hT, hg⟩ := append_ah h.ah (src_row ho).2 hl ty
  obtain ⟨x, c, rfl, _, _⟩ := hA.shape
  have hrT : r ∉ av.ownBlock.toList := fun e => h.ne (by simpa [Option.mem_toList] using e)
  have hc2 := hT.ob h.cs hrT
  have hT3 : Turn (r :: av.ownBlock.toList) W1 (W2.setCell ⟨r, 5, none⟩ (.slice x (ah ++ bs).length c)) := (hT.mono (fun b hb => List.mem_cons_of_mem _ hb)).trans (Turn.set _ _ _ _ (by simp))
  have hrl := h_lt h.cs
  have hne : (Value.slice x (ah ++ bs).length c).ownBlock ≠ some r := fun e => by
    rcases hg r e with e | e
    · exact h.ne e
    · omega
  obtain ⟨rv, v1, v2, hpp, m1, _⟩ := hp.ex
  refine ⟨x, _, c, W2, hrun, h_cell hc2 5 rfl, h_fz hc2 5, ⟨⟨by simpa using h_set hc2 5 (.slice x (ah ++ bs).length c), hA.turn (Turn.set (S := [r]) W2 r 5 _ (by simp)) (fun g hg' e => hne (by simp at e; rw [hg', e])), hne, fun b hb => ⟨(h.dis b hb).1, fun e => ?_⟩, ⟨h.new.1, fun g hg' => ?_⟩, h.last0⟩, hp.own hT3 (fun b hb => ?_) (fun b hb => ?_), _, hT3, fun b hb e => ?_⟩⟩
  · rcases hg b e with e | e
    · exact (h.dis b hb).2 e
    · have := (m1 b (List.mem_append_right _ hb)).1
      omega
  · rcases hg g hg' with e | e
    · exact h.new.2 g e
    · have := hp.since.size
      omega
  · rcases List.mem_cons.1 hb with rfl | hb
    · exact ⟨h.new.1, .inl (by simp [rdL])⟩
    · have e : av.ownBlock = some b := by simpa [Option.mem_toList] using hb
      exact ⟨h.new.2 b e, .inl (by simp [rdL, e])⟩
  · rcases List.mem_append.1 hb with hb | hb
    · rcases List.mem_cons.1 hb with rfl | hb
      · exact .inl (by simp [rdL])
      · have e : (Value.slice x (ah ++ bs).length c).ownBlock = some b := by simpa [Option.mem_toList] using hb
        rcases hg b e with e | e
        · exact .inl (by simp [rdL, e])
        · exact .inr ⟨e.1, by have := (Turn.set (S := [r]) W2 r 5 (.slice x (ah ++ bs).length c) (by simp)).size; omega⟩
    · exact .inl (List.mem_append_right _ hb)
  · rcases List.mem_cons.1 e with e | e
    · exact (h.dis b hb).1 e
    · exact (h.dis b hb).2 (by simpa [Option.mem_toList] using e)
/-- What stands behind a Read. -/
structure RL (E : Ev) (w : World) (s : Sx) (M : List Nat) (r : Nat) (av : Value) (ah : List UInt8) (last : Int) (feed ended : Bool) (most g : Nat) (bv : Value) (err : Int) (wr : World) : Prop where
  rd : RdI E wr r av ah last feed ended M
  kp : Kept M w wr
  sh : ∃ x n c, bv = .slice x n c
  ex : ∃ s1, (err = 9 ∧ PS E (some false) wr s1 (rdL r av ++ M) ∧ ∃ u, RdNo E.G.faults s s1 u ∧ E.G.faults.length - u + 1 ≤ g) ∨ (err = 0 ∧ ∃ bs, PS E (some false) wr s1 (bv.ownBlock.toList ++ (rdL r av ++ M)) ∧ wr.ownsRow w.heap.size 5 1 bv bs.length (u8s bs) ∧ RdTo E.G.faults s s1 most bs)
section
variable {E : Ev} {md : Option Bool} {w : World} {s : Sx} {M : List Nat} {r : Nat} {av : Value} {ah : List UInt8} {last : Int} {feed ended : Bool}
theorem rl_read {wr : World} {s1 : Sx} {u most g : Nat} (hp : PS E md wr s1 (rdL r av ++ M)) (h : RdI E wr r av ah last feed ended M) (hk : Kept M w wr) (hn : RdNo E.G.faults s s1 u) (hg : E.G.faults.length - u + 1 ≤ g + 1) (hm : 1 ≤ most) (hL : s.k.rest.length ≤ 1048576) (hst : s.steps + E.G.faults.length + 1 < 4611686018427387903) (hc : md ≠ some false → E.c0 = .read most) :
    Calls Tryz.prog 262 #[ptr E.G.p, .int .i64 0, .int .i64 most] wr fun e w' => Waits md E M e wr w' ∨ (md ≠ none ∧ ∃ bv err, e = .returned (.tuple #[bv, .int .i64 err]) ∧ RL E w s M r av ah last feed ended most g bv err w') := by
  have e1 : s1.k.rest = s.k.rest := by rw [hn.k]
  have e2 : s1.k.used = u := by rw [hn.k]
  have hf := hn.fit
  have hs := hn.steps
  refine (hp.read most hm (by rw [e1]; exact hL) (by omega) hc).mono ?_
  rintro e w' (⟨h1, h2, h3, h4, h5, h6⟩ | ⟨hmd, bv, rfl, ho, hp', hk'⟩)
  · exact .inl ⟨h1, h2, h3, h4, h5, Kept.less h6 (fun x hx => List.mem_append_right _ hx)⟩
  · refine .inr ⟨hmd, bv, _, rfl, h.turn hk', hk.trans (hk'.less (fun x hx => List.mem_append_right _ hx)), ?_, ?_⟩
    · obtain ⟨a, c, e⟩ := own_shape ho
      exact ⟨a, _, c, e⟩
    · rcases readS_cases E.G.faults s1.k most hm (by omega) with ⟨n, u', e, g1, g2, g3, g4, g5⟩ | ⟨e, g1⟩
      · rw [e] at ho hp' ⊢
        exact ⟨_, .inr ⟨rfl, _, hp', own_less0 ho hk.size, hn.to g1 g2 (by omega) g4⟩⟩
      · rw [e] at ho hp' ⊢
        refine ⟨_, .inl ⟨rfl, ?_, u + 1, hn.more (by omega), by omega⟩⟩
        exact hp'.own (N := rdL r av ++ M) (Turn.refl [] w') (by simp) (fun b hb => .inl (List.mem_append_right _ hb))
theorem RL.drewN {g most : Nat} {bv : Value} {err : Int} {wr : World} (h : RL E w s M r av ah last feed ended most g bv err wr) (q : Nat) : RL E w s M r av ah last feed ended most g bv err (wr.drewN q) := by
  refine ⟨h.rd.turn ((Kept.refl _ wr).drewN q), h.kp.drewN q, h.sh, ?_⟩
  obtain ⟨s1, (⟨h1, h2, h3⟩ | ⟨h1, bs, h2, h3, h4⟩)⟩ := h.ex
  · exact ⟨s1, .inl ⟨h1, h2.drewN q, h3⟩⟩
  · exact ⟨s1, .inr ⟨h1, bs, h2.drewN q, own_turn h3 ((Turn.refl [] wr).drewN q) (by simp), h4⟩⟩

set_option maxRecDepth 100000 in
set_option maxHeartbeats 4000000 in
theorem rread_c (hp : PS E md w s (rdL r av ++ M)) (h : RdI E w r av ah last feed ended M) (most : Nat) (hm : 1 ≤ most) (hL : ah.length + s.k.rest.length ≤ 1048576) (hu : s.k.used ≤ E.G.faults.length) (hst : s.steps + E.G.faults.length + 1 < 4611686018427387903) (hh : s.held ≤ 4611686018427387903) (hc : md ≠ some false → E.c0 = .read most) :
    Calls Tryz.prog 242 #[ptr r, .int .i64 most] w fun e w' => Waits md E M e w w' ∨ (md ≠ none ∧ e = .returned (.int .i64 0) ∧ ∃ bs av' s', RdTo E.G.faults s s' most bs ∧ PS E (some false) w' (s'.holds bs.length) (rdL r av' ++ M) ∧ RdI E w' r av' (ah ++ bs) last feed bs.isEmpty M ∧ Kept M w w') := by
  have c0 : w.cell? ⟨r, 0, none⟩ = some (ptr E.G.p) := h_cell h.cs 0 rfl
  have c1 : w.cell? ⟨r, 1, none⟩ = some (.int .i64 0) := h_cell h.cs 1 rfl
  have hrl := h_lt h.cs
  have hal : ∀ g, av.ownBlock = some g → g < w.heap.size := fun g hg => by
    rcases h.ah with ⟨rfl, _⟩ | ⟨g', off, cap, rfl, h1, _⟩
    · cases hg
    · cases hg; exact h1
  obtain ⟨xa, ca, rfl, _, _⟩ := h.ah.shape
  have hr0 := rl_read (w := w) (s := s) (g := E.G.faults.length + 1) (u := s.k.used) (hp.drewN 1) (h.turn ((Kept.refl _ w).drewN 1)) ((Kept.refl _ w).drewN 1) (RdNo.refl hu) (by omega) hm (by omega) hst hc
  clear hp h
  go_enter Tryz.func242, Tryz.ntmps242
  go_upto_region 1 with fail
  go_cut [5, 6] (fun b e wx => ∃ x n c err, b = .slice x n c ∧ e = .int .i64 err ∧ Hid (md ≠ none ∧ RL E w s M r (.slice xa ah.length ca) ah last feed ended most (E.G.faults.length + 1) (.slice x n c) err wx))
  case first =>
    go_region_with (go_at_call 262; refine hr0.mono ?_; rintro e w1 (⟨hmd, rfl, hW⟩ | ⟨hmd, bv, err, rfl, hR⟩); (· exact ⟨rfl, .inl (Waits.after ((Kept.refl _ w).drewN 1) ⟨hmd, rfl, hW⟩)⟩); obtain ⟨x, n, c, rfl⟩ := hR.sh)
    all_goals
      simp only [Act.put, List.getElem_toArray, List.getElem_cons_succ, List.getElem_cons_zero, List.setIfInBounds_toArray, List.set_cons_succ, List.set_cons_zero]
      go_wp2_with fail
      go_meet
      (case rel => exact ⟨x, n, c, err, rfl, rfl, hmd, hR⟩)
  case rest =>
    obtain ⟨x, n, c, err, rfl, rfl, H0⟩ := hcut
    have hmd := H0.out.1
    clear hr0 c0 c1
    go_wp2_with fail
    go_loopg [5, 6] (E.G.faults.length + 2) (fun g b e wr => ∃ x n c err, b = .slice x n c ∧ e = .int .i64 err ∧ Hid (RL E w s M r (.slice xa ah.length ca) ah last feed ended most g (.slice x n c) err wr))
    case atStart =>
      refine ⟨x, n, c, err, rfl, rfl, ?_⟩
      obtain ⟨_, hR⟩ := H0.out
      refine ⟨hR.rd, hR.kp, hR.sh, ?_⟩
      obtain ⟨s1, (⟨e, hp1, u, hno, hgk⟩ | h2)⟩ := hR.ex
      · exact ⟨s1, .inl ⟨e, hp1, u, hno, by omega⟩⟩
      · exact ⟨s1, .inr h2⟩
    case round =>
      clear H0
      obtain ⟨x, n, c, err, rfl, rfl, HR⟩ := hrel
      obtain ⟨s1, (⟨rfl, hp1, u, hno, hgk⟩ | ⟨rfl, bs, hp1, ho, hto⟩)⟩ := HR.out.ex
      · have c0 : wr.cell? ⟨r, 0, none⟩ = some (ptr E.G.p) := h_cell HR.out.rd.cs 0 rfl
        have c1 : wr.cell? ⟨r, 1, none⟩ = some (.int .i64 0) := h_cell HR.out.rd.cs 1 rfl
        obtain ⟨g1, rfl⟩ : ∃ g1, gk = g1 + 1 := ⟨gk - 1, by omega⟩
        have hr1 := rl_read (w := w) (s := s) (g := g1) (hp1.drewN 1) (HR.out.rd.turn ((Kept.refl _ wr).drewN 1)) (HR.out.kp.drewN 1) hno hgk hm (by omega) hst (fun e => absurd rfl e)
        clear hp1 hno hgk
        go_wp2_with fail
        go_region_with (go_at_call 262; refine hr1.mono ?_; rintro e w1 (⟨hmd2, _, hW⟩ | ⟨hmd2, bv, err, rfl, hR⟩); (· cases hmd2); obtain ⟨x, n, c, rfl⟩ := hR.sh)
        all_goals
          simp only [Act.put, List.getElem_toArray, List.getElem_cons_succ, List.getElem_cons_zero, List.setIfInBounds_toArray, List.set_cons_succ, List.set_cons_zero]
          go_wp2_with fail
          go_roundg g1
          (case measure => omega)
          (case rel => exact ⟨x, n, c, err, rfl, rfl, hR⟩)
      · obtain ⟨ax, cx, e0⟩ := own_shape ho
        cases e0
        have hRd := HR.out.rd
        have hge : ∀ g, (Value.slice x bs.length c).ownBlock = some g → w.heap.size ≤ g := fun g hg => own_ge ho hg
        have hW := hRd.widen (L := (Value.slice x bs.length c).ownBlock.toList) (fun b hb => by
          have hg : (Value.slice x bs.length c).ownBlock = some b := by simpa [Option.mem_toList] using hb
          have := hge b hg
          exact ⟨by omega, fun e => by have := hal b e; omega⟩)
        have hp2 : PS E (some false) wr s1 (rdL r (.slice xa ah.length ca) ++ ((Value.slice x bs.length c).ownBlock.toList ++ M)) := hp1.own (Turn.refl [] wr) (by simp) (fun b hb => by
          refine .inl ?_
          simp only [List.mem_append] at hb ⊢
          rcases hb with h | h | h
          · exact .inr (.inl h)
          · exact .inl h
          · exact .inr (.inr h))
        have hbe : (((bs.length : Nat) : Int) == 0) = bs.isEmpty := by cases bs <;> simp; omega
        have b8 : wr.cell? ⟨r, 8, none⟩ = some (.bool ended) := h_cell hRd.cs 8 rfl
        have z8 := h_fz hRd.cs 8
        obtain ⟨hI1, hp3, hk1⟩ := hW.put hp2 (i := 8) (v := .bool bs.isEmpty) (ended' := bs.isEmpty) hRd.last0 (by simpa using h_set hRd.cs 8 (.bool bs.isEmpty))
        have ho1 := hk1.row ho (fun g hg => by simp [hg])
        have hlen : ah.length + bs.length ≤ 1048576 := by
          have := hto.cut
          have h2 : bs.length ≤ s.k.rest.length := by rw [this, List.length_take]; omega
          omega
        obtain ⟨x2, n2, c2, W2, hrun, r5, z5, hApp⟩ := rd_app hI1 hp3 ho1 hlen 23
        have c5 : (wr.setCell ⟨r, 8, none⟩ (.bool bs.isEmpty)).cell? ⟨r, 5, none⟩ = some (.slice xa ah.length ca) := h_cell hI1.cs 5 rfl
        have d0 : (W2.setCell ⟨r, 5, none⟩ (.slice x2 n2 c2)).cell? ⟨r, 0, none⟩ = some (ptr E.G.p) := h_cell hApp.rd.cs 0 rfl
        have hhold := hApp.ps.hold bs.length (by omega) (by rw [hto.held]; omega)
        have HZ := Lib.hid (And.intro hApp (And.intro hto (And.intro (HR.out.kp.trans (hk1.less (N := M) (fun x hx => List.mem_append_right _ hx))) hmd)))
        clear hApp hto hI1 hp3 hk1 ho1 hW hp2 hRd hge ho hp1 HR
        go_wp2_with (first
          | (at_builtin; refine wpList_append_run rfl _ _ 23 23 rfl rfl rfl hrun ?_)
          | (go_at_call 263; refine hhold.mono ?_; rintro e w4 ⟨rfl, hp4, hk4⟩))
        go_ret
        obtain ⟨hApp, hto, hkp, hmd⟩ := HZ.out
        refine .inr ⟨hmd, rfl, bs, _, s1, hto, hp4.own (N := rdL r (.slice x2 n2 c2) ++ M) (Turn.refl [] w4) (by simp) (fun b hb => .inl (by
          simp only [List.mem_append] at hb ⊢
          rcases hb with h | h
          · exact .inl h
          · exact .inr (.inr h))), ?_, ?_⟩
        · have hf := hApp.rd.turn hk4
          exact ⟨hf.cs, hf.ah, hf.ne, fun b hb => hf.dis b (List.mem_append_right _ hb), hf.new, hf.last0⟩
        · exact (hkp.trans (hApp.kp.less (fun x hx => List.mem_append_right _ hx))).trans (hk4.less (fun x hx => List.mem_append_right _ (List.mem_append_right _ hx)))
end
end Go.Proofs.YtfkoehfkiommpaaGreatDoor
