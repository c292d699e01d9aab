/- Nodes of which one is to stand are put off. -/
import Derived.Test.YtlekfdkahlobiaaGreatMKids
namespace Go.Proofs.YtlekfdkahlobiaaGreat.Re
open Go.Proofs.YtlekfdkahlobiaaGreat.Tr
open Go.RowKit Go.Maps

section
variable {w0 w : World} {bb pg mb : Nat} {B : Bst} {U : List Tsk}
set_option maxHeartbeats 4000000 in
set_option maxRecDepth 100000 in
theorem branches_u {a : Option Addr} {cap : Nat} {l : List Nd} {x : Nd} (h : Bu w0 w bb pg mb B U) (hk : KidsW w0 a (l ++ [x])) (hn : U.length + l.length + 1 ≤ 1099511627776) (hcap : l.length + 1 ≤ cap ∧ cap ≤ 9223372036854775807) :
    Calls Tryz.prog 32 #[bbP bb, .slice a (l.length + 1) cap] w (BuO w0 w bb pg mb B (U ++ l.map (fun k => tBranch k B.first) ++ [tNode x])) := by
  have HK := Lib.hid hk
  obtain ⟨ab, aof, ap, rfl, _⟩ := hk l.length x (by simp)
  have hOa : Only bTys w (w.alloc (.cells #[bbP bb] 68)) := Only.of ((Below.refl _ w).alloc (Nat.le_refl _) _)
  have hB1 := h.alloc (.cells #[bbP bb] 68)
  have hx1 : BxB (w.alloc (.cells #[bbP bb] 68)) w.heap.size bb := al_new _ _
  have hsz : (w.alloc (.cells #[bbP bb] 68)).heap.size = w.heap.size + 1 := by simp
  obtain ⟨c0, c2, _, _⟩ := hB1.cells
  have cx := h_cell hx1 0 rfl
  have hOb : Only bTys (w.alloc (.cells #[bbP bb] 68)) ((w.alloc (.cells #[bbP bb] 68)).alloc (.cells #[.int .i64 (B.first : Int)] 3)) := Only.of ((Below.refl _ _).alloc (Nat.le_refl _) _)
  have hx2 : BxI ((w.alloc (.cells #[bbP bb] 68)).alloc (.cells #[.int .i64 (B.first : Int)] 3)) (w.heap.size + 1) B.first := by rw [← hsz]; exact al_new _ _
  have HI0 : Hid (Bu w0 ((w.alloc (.cells #[bbP bb] 68)).alloc (.cells #[.int .i64 (B.first : Int)] 3)) bb pg mb B (U ++ (l.take 0).map (fun k => tBranch k B.first)) ∧ BxB ((w.alloc (.cells #[bbP bb] 68)).alloc (.cells #[.int .i64 (B.first : Int)] 3)) w.heap.size bb ∧ BxI ((w.alloc (.cells #[bbP bb] 68)).alloc (.cells #[.int .i64 (B.first : Int)] 3)) (w.heap.size + 1) B.first ∧ Only bTys w ((w.alloc (.cells #[bbP bb] 68)).alloc (.cells #[.int .i64 (B.first : Int)] 3))) := Lib.hid ⟨by rw [List.take_zero, List.map_nil, List.append_nil]; exact hB1.alloc _, hOb.cells hx1 (by decide), hx2, hOa.trans hOb⟩
  have q0 : IntKind.i64.wrap ((l.length : Int) + 1 - 1) = (l.length : Int) := by rw [show (l.length : Int) + 1 - 1 = (l.length : Int) by omega]; exact IntWalk.i64_in _ (by omega)
  have q3 : (l.length : Int) ≤ (cap : Int) := by omega
  have q4 : (l.length : Int) ≤ (l.length : Int) + 1 := by omega
  have q5 : ¬ cap = l.length := by omega
  clear h hk hOa hOb hB1 hx1 hx2 hsz
  go_enter Tryz.func32, Tryz.ntmps32
  go_wp2_with fail
  go_loopw [7, 22] (fun _ v8 wr => ∃ (i : Nat), i ≤ l.length ∧ v8 = .int .i64 (i : Int) ∧ Hid (Bu w0 wr bb pg mb B (U ++ (l.take i).map (fun k => tBranch k B.first)) ∧ BxB wr w.heap.size bb ∧ BxI wr (w.heap.size + 1) B.first ∧ Only bTys w wr)) (fun _ v8 _ => l.length - (intOf v8).toNat)
  case atStart => exact ⟨0, by omega, rfl, HI0⟩
  case round =>
    obtain ⟨i, hi, rfl, HI⟩ := hrel
    clear HI0 c0 c2 cx
    by_cases hlt : i < l.length
    · have n1 : (i : Int) < (l.length : Int) := by omega
      obtain ⟨y, hy⟩ : ∃ y, l[i]? = some y := ⟨_, List.getElem?_eq_getElem hlt⟩
      obtain ⟨b', off', p, e, hc, hN⟩ := HK.out i y (by rw [List.getElem?_append_left hlt]; exact hy)
      cases e
      have HT : Hid (U ++ (l.take (i + 1)).map (fun k => tBranch k B.first) = (U ++ (l.take i).map (fun k => tBranch k B.first)) ++ [tBranch y B.first]) := by
        show _ = _
        rw [List.take_add_one, hy, List.map_append, List.append_assoc]
        rfl
      have cq := cell_below (HI.out.1.bel) hc
      have c2 := h_cell HI.out.2.1 0 rfl
      have c2a := fun o => cell_al (o := o) c2
      have HB := Lib.hid (HI.out.1.alloc (.cells #[ptr p] 36))
      have hOn : Only bTys wr (wr.alloc (.cells #[ptr p] 36)) := Only.of ((Below.refl _ wr).alloc (Nat.le_refl _) _)
      have hx1 : BxB (wr.alloc (.cells #[ptr p] 36)) w.heap.size bb := hOn.cells HI.out.2.1 (by decide)
      have hx2 : BxI (wr.alloc (.cells #[ptr p] 36)) (w.heap.size + 1) B.first := hOn.cells HI.out.2.2.1 (by decide)
      have hx3 : BxN (wr.alloc (.cells #[ptr p] 36)) wr.heap.size p := al_new _ _
      have HO := Lib.hid (And.intro (HI.out.2.2.2.trans hOn) (And.intro hx1 hx2))
      have HL := Lib.hid (later_u (fn := .func 42) (fa := #[]) (fc := #[ptr w.heap.size, ptr (w.heap.size + 1), ptr wr.heap.size]) (t := tBranch y B.first) HB.out (.inr (.inl ⟨_, _, _, p, rfl, hx1, hx2, hx3, hN.1, hN.2, rfl⟩)) (by rw [List.length_append, List.length_map, List.length_take]; omega))
      clear hc hN hy hOn hx1 hx2 hx3
      go_wp2_with (go_at_call 40; refine HL.out.mono ?_; rintro e w3 ⟨rfl, hq, hO3⟩; rw [← HT.out] at hq; have H3 := Lib.hid (And.intro hq hO3); clear hq hO3)
      exact ⟨⟨i + 1, by omega, by go_num, Lib.hid ⟨H3.out.1, H3.out.2.cells HO.out.2.1 (by decide), H3.out.2.cells HO.out.2.2 (by decide), HO.out.1.trans H3.out.2⟩⟩, by simp [intOf]; omega⟩
    · obtain rfl : i = l.length := by omega
      have n1 : ¬ (l.length : Int) < (l.length : Int) := by omega
      have c2 := h_cell HI.out.2.1 0 rfl
      have HKx : Hid (Calls Tryz.prog 31 #[bbP bb, .slice (some ⟨ab, aof + l.length, none⟩) 1 (cap - l.length)] wr.drew (BuO w0 wr.drew bb pg mb B (U ++ l.map (fun k => tBranch k B.first) ++ [tNode x]))) := by
        have := HI.out.1.draw
        rw [List.take_length] at this
        refine kids_u (l := [x]) this ?_ (by rw [List.length_append, List.length_map]; simp; omega)
        intro j y hy
        obtain ⟨rfl, rfl⟩ : j = 0 ∧ x = y := by
          rcases j with _ | j
          · exact ⟨rfl, by simpa using hy⟩
          · simp at hy
        obtain ⟨b', off', p, e, hc, hN⟩ := HK.out l.length x (by simp)
        cases e
        exact ⟨_, _, p, rfl, hc, hN⟩
      have HO := Lib.hid HI.out.2.2.2
      clear HI HK
      have q6 : l.length + 1 - l.length = 1 := by omega
      go_upto_region 7 with fail
      go_region_law (go_simp; go_at_call 31; refine HKx.out.mono ?_; rintro e w3 ⟨rfl, hq, hO3⟩; have H3 := Lib.hid (And.intro hq hO3); clear hq hO3)
      all_goals
        go_wp2_with fail
        go_end0
        exact ⟨rfl, by rw [← List.append_assoc]; exact H3.out.1, (show Only bTys w wr.drew from ⟨HO.out.size, HO.out.blk⟩).trans H3.out.2⟩
end
end Go.Proofs.YtlekfdkahlobiaaGreat.Re

namespace Go.Proofs.YtlekfdkahlobiaaGreat.Re
open Go.Proofs.YtlekfdkahlobiaaGreat.Tr
open Go.RowKit Go.Maps

theorem kids_open {w : World} {v : Value} {k : Nat} {p : UInt8 → Bool} {m n : Int} {l : List Nd} (h : NodeP w v ⟨k, p, m, n, l⟩) :
    ∃ (b : Nat) (a : Option Addr) (cap : Nat), v = ptr b ∧ BlkAt 64 w b k p m n (.slice a l.length cap) ∧ (l.length ≤ cap ∧ cap ≤ 9223372036854775807) ∧ ∀ (i : Nat) (x : Nd), l[i]? = some x → ∃ kb off q, a = some ⟨kb, off, none⟩ ∧ w.cell? ⟨kb, off + i, none⟩ = some (ptr q) ∧ NodeP w (ptr q) x := by
  rw [NodeP] at h
  obtain ⟨b, kv, rfl, hB, hk⟩ := h
  rcases hk with ⟨rfl, rfl⟩ | ⟨kb, off, cap, cs, rfl, h2, h3, h4⟩
  · exact ⟨b, none, 0, rfl, hB, ⟨Nat.le_refl _, by decide⟩, fun i x hx => by simp at hx⟩
  · have hL : ∀ (l : List Nd) (j : Nat), NodeP.kidsP w cs off j l → ∀ (i : Nat) (x : Nd), l[i]? = some x → ∃ q, cs[off + (j + i)]? = some (ptr q) ∧ NodeP w (ptr q) x := by
      intro l
      induction l with
      | nil => intro j _ i x hx; simp at hx
      | cons y l ih =>
        intro j h i x hx
        rw [NodeP.kidsP] at h
        obtain ⟨⟨v, h1, h2⟩, h3⟩ := h
        cases i with
        | zero =>
          cases hx
          obtain ⟨q, rfl, _⟩ := h2.ptr
          exact ⟨q, h1, h2⟩
        | succ i =>
          have := ih (j + 1) h3 i x (by simpa using hx)
          rw [show j + 1 + i = j + (i + 1) by omega] at this
          exact this
    refine ⟨b, some ⟨kb, off, none⟩, cap, rfl, hB, h2, fun i x hx => ?_⟩
    obtain ⟨q, h5, h6⟩ := hL l 0 h4 i x hx
    rw [Nat.zero_add] at h5
    exact ⟨kb, off, q, rfl, h_cell h3 _ h5, h6⟩
theorem ord_kids {k : Nat} {p : UInt8 → Bool} {m n : Int} {l : List Nd} (h : (⟨k, p, m, n, l⟩ : Nd).ord = true) : ∀ (i : Nat) (x : Nd), l[i]? = some x → x.ord = true := fun i x hx => by
  rw [Nd.ord, Bool.and_eq_true] at h
  exact ords_iff.1 h.2 x (List.mem_of_getElem? hx)
section
variable {w0 w : World} {bb pg mb : Nat} {B : Bst} {U : List Tsk}
/-- What the function 'node' reads of a node. -/
theorem node_cells {p : Nat} {k : Nat} {q : UInt8 → Bool} {m n : Int} {kv : Value} (hB : BlkAt 64 w0 p k q m n kv) (h : Bu w0 w bb pg mb B U) : w.cell? ⟨p, 0, none⟩ = some (.int .i64 (k : Int)) ∧ w.cell? ⟨p, 257, none⟩ = some (.int .i64 m) ∧ w.cell? ⟨p, 258, none⟩ = some (.int .i64 n) ∧ w.cell? ⟨p, 259, none⟩ = some kv :=
  ⟨cell_below h.bel (h_cell hB 0 (ndC_0 ..)), cell_below h.bel (h_cell hB 257 (ndC_m ..)), cell_below h.bel (h_cell hB 258 (ndC_n ..)), cell_below h.bel (h_cell hB 259 (ndC_kv ..))⟩
set_option maxHeartbeats 4000000 in
set_option maxRecDepth 100000 in
theorem node_cat {p : Nat} {q : UInt8 → Bool} {m n : Int} {l : List Nd} (h : Bu w0 w bb pg mb B U) (hx : NodeP w0 (ptr p) ⟨4, q, m, n, l⟩) (ho : (⟨4, q, m, n, l⟩ : Nd).ord = true) (hl : U.length + l.length ≤ 1099511627776) :
    Calls Tryz.prog 25 #[bbP bb, ptr p] w (NodeO w0 w bb pg mb ⟨4, q, m, n, l⟩ B U) := by
  obtain ⟨b, a, cap, e, hB, hcap, hk⟩ := kids_open hx
  cases e
  obtain ⟨d0, d1, d2, d3⟩ := node_cells hB h
  obtain ⟨e0, e2, _, _⟩ := h.cells
  have hkw : KidsW w0 a l := fun i x hx2 => by
    obtain ⟨kb, off, u, e, hc, hN⟩ := hk i x hx2
    exact ⟨kb, off, u, e, hc, hN, ord_kids ho i x hx2⟩
  have HL := Lib.hid (kids_u (cap := cap) h hkw hl)
  have HS : Hid (∀ w', Bu w0 w' bb pg mb B (U ++ l.map tNode) → Only bTys w w' → NodeO w0 w bb pg mb ⟨4, q, m, n, l⟩ B U (.returned (.tuple #[])) w') := Lib.hid fun w' a1 a2 => ⟨B, l.reverse.map tNode, rfl, by rw [← List.map_reverse, List.reverse_reverse]; exact a1, a2.c, steps_cat B l, fine_cat B l⟩
  clear h hx ho hB hk hkw
  go_enter Tryz.func25, Tryz.ntmps25
  go_wp2_with (go_at_call 31; refine HL.out.mono ?_; rintro e w1 ⟨rfl, hq, hO3⟩; have H3 := Lib.hid (And.intro hq hO3); clear hq hO3)
  go_end0
  exact HS.out _ H3.out.1 H3.out.2
set_option maxHeartbeats 4000000 in
set_option maxRecDepth 100000 in
theorem node_alt {p : Nat} {q : UInt8 → Bool} {m n : Int} {l : List Nd} {x : Nd} (h0 : 0 < B.sts.length) (h : Bu w0 w bb pg mb B U) (hx : NodeP w0 (ptr p) ⟨5, q, m, n, l ++ [x]⟩) (ho : (⟨5, q, m, n, l ++ [x]⟩ : Nd).ord = true) (hl : U.length + l.length + 1 ≤ 1099511627776) :
    Calls Tryz.prog 25 #[bbP bb, ptr p] w (NodeO w0 w bb pg mb ⟨5, q, m, n, l ++ [x]⟩ B U) := by
  obtain ⟨b, a, cap, e, hB, hcap, hk⟩ := kids_open hx
  cases e
  have el : (l ++ [x]).length = l.length + 1 := by simp
  rw [el] at hB hcap
  obtain ⟨d0, d1, d2, d3⟩ := node_cells hB h
  obtain ⟨e0, e2, _, _⟩ := h.cells
  have hkw : KidsW w0 a (l ++ [x]) := fun i y hx2 => by
    obtain ⟨kb, off, u, e, hc, hN⟩ := hk i y hx2
    exact ⟨kb, off, u, e, hc, hN, ord_kids ho i y hx2⟩
  have HL := Lib.hid (branches_u h hkw hl hcap)
  have HS : Hid (∀ w', Bu w0 w' bb pg mb B (U ++ l.map (fun k => tBranch k B.first) ++ [tNode x]) → Only bTys w w' → NodeO w0 w bb pg mb ⟨5, q, m, n, l ++ [x]⟩ B U (.returned (.tuple #[])) w') := Lib.hid fun w' a1 a2 => ⟨B, tNode x :: l.reverse.map (fun k => tBranch k B.first), rfl, by rw [List.reverse_cons, ← List.map_reverse, List.reverse_reverse, ← List.append_assoc]; exact a1, a2.c, steps_alt h0 l x, fine_alt B l x⟩
  clear h hx ho hB hk hkw
  go_enter Tryz.func25, Tryz.ntmps25
  go_wp2_with (go_at_call 32; refine HL.out.mono ?_; rintro e w1 ⟨rfl, hq, hO3⟩; have H3 := Lib.hid (And.intro hq hO3); clear hq hO3)
  go_end0
  exact HS.out _ H3.out.1 H3.out.2
set_option maxHeartbeats 4000000 in
set_option maxRecDepth 100000 in
theorem node_none {p : Nat} {q : UInt8 → Bool} {m n : Int} {l : List Nd} (h : Bu w0 w bb pg mb B U) (hx : NodeP w0 (ptr p) ⟨0, q, m, n, l⟩) :
    Calls Tryz.prog 25 #[bbP bb, ptr p] w (NodeO w0 w bb pg mb ⟨0, q, m, n, l⟩ B U) := by
  obtain ⟨b, a, cap, e, hB, hcap, hk⟩ := kids_open hx
  cases e
  obtain ⟨d0, d1, d2, d3⟩ := node_cells hB h
  obtain ⟨e0, e2, _, _⟩ := h.cells
  have HS : Hid (NodeO w0 w bb pg mb ⟨0, q, m, n, l⟩ B U (.returned (.tuple #[])) w) := Lib.hid ⟨B, [], rfl, by rw [List.reverse_nil, List.append_nil]; exact h, (Only.refl _ _).c, (fun Bf e b => by
    have e : Bf = B := e
    subst e
    rw [(st_kinds b q m n l).1]
    exact Does.refl b Bf), fine_none B⟩
  clear h hx hB hk
  go_enter Tryz.func25, Tryz.ntmps25
  go_wp2_with fail
  go_end0
  exact HS.out
set_option maxHeartbeats 4000000 in
set_option maxRecDepth 100000 in
theorem node_ends {p k : Nat} {q : UInt8 → Bool} {m n : Int} {l : List Nd} (hk2 : k = 2 ∨ k = 3) (h0 : 0 < B.sts.length) (hn : B.sts.length ≤ 1099511627776) (h : Bu w0 w bb pg mb B U) (hx : NodeP w0 (ptr p) ⟨k, q, m, n, l⟩) :
    Calls Tryz.prog 25 #[bbP bb, ptr p] w (NodeO w0 w bb pg mb ⟨k, q, m, n, l⟩ B U) := by
  obtain ⟨b, a, cap, e, hB, hcap, hk⟩ := kids_open hx
  cases e
  obtain ⟨d0, d1, d2, d3⟩ := node_cells hB h
  obtain ⟨e0, e2, _, _⟩ := h.cells
  have HL := Lib.hid (put_u (s := ⟨k, 0, B.first, 0⟩) h hn)
  have HS : Hid (∀ w', Bu w0 w' bb pg mb (B.put ⟨k, 0, B.first, 0⟩) U → Only bTys w w' → NodeO w0 w bb pg mb ⟨k, q, m, n, l⟩ B U (.returned (.tuple #[])) w') := Lib.hid fun w' a1 a2 => ⟨B.put ⟨k, 0, B.first, 0⟩, [], rfl, by rw [List.reverse_nil, List.append_nil]; exact a1, a2.c, (fun Bf e b => by
    have e : Bf = B.put ⟨k, 0, B.first, 0⟩ := e
    subst e
    rcases hk2 with rfl | rfl
    · rw [(st_kinds b q m n l).2.2.1]; exact D_begin h0
    · rw [(st_kinds b q m n l).2.2.2.1]; exact D_end h0), fine_put B k hk2⟩
  clear h hx hB hk
  rcases hk2 with rfl | rfl
  · go_enter Tryz.func25, Tryz.ntmps25
    go_wp2_with (go_at_call 24; refine HL.out.mono ?_; rintro e w1 ⟨rfl, hq, hO3⟩; have H3 := Lib.hid (And.intro hq hO3); clear hq hO3)
    go_end0
    exact HS.out _ H3.out.1 H3.out.2
  · go_enter Tryz.func25, Tryz.ntmps25
    go_wp2_with (go_at_call 24; refine HL.out.mono ?_; rintro e w1 ⟨rfl, hq, hO3⟩; have H3 := Lib.hid (And.intro hq hO3); clear hq hO3)
    go_end0
    exact HS.out _ H3.out.1 H3.out.2
end
end Go.Proofs.YtlekfdkahlobiaaGreat.Re

namespace Go.Proofs.YtlekfdkahlobiaaGreat.Re
open Go.Proofs.YtlekfdkahlobiaaGreat.Tr
open Go.RowKit Go.Maps

section
variable {w0 w : World} {bb pg mb : Nat} {B : Bst} {U : List Tsk}
theorem prs_rev (x : Nd) (f k m : Nat) : List.replicate m (tNode x) ++ prs x f k = ((List.replicate k [tNode x, tFork f]).flatten ++ List.replicate m (tNode x)).reverse := by
  rw [List.reverse_append, List.reverse_replicate]
  congr 1
  unfold prs
  induction k with
  | zero => rfl
  | succ k ih => rw [List.replicate_succ', List.flatten_append, ih, List.replicate_succ]; simp
set_option maxHeartbeats 4000000 in
set_option maxRecDepth 100000 in
theorem node_rep {p : Nat} {q : UInt8 → Bool} {m : Nat} {n : Int} {x : Nd} (hn2 : n ≤ 1048576) (hm2 : m ≤ 1048576) (h0 : 0 < B.sts.length) (hn : B.sts.length ≤ 1099511627776) (h : Bu w0 w bb pg mb B U) (hx : NodeP w0 (ptr p) ⟨6, q, m, n, [x]⟩) (ho : (⟨6, q, m, n, [x]⟩ : Nd).ord = true) (hl : U.length + 2 * n.toNat + m + 2 ≤ 1099511627776) :
    Calls Tryz.prog 25 #[bbP bb, ptr p] w (NodeO w0 w bb pg mb ⟨6, q, m, n, [x]⟩ B U) := by
  obtain ⟨b, a, cap, e, hB, hcap, hk⟩ := kids_open hx
  cases e
  obtain ⟨d0, d1, d2, d3⟩ := node_cells hB h
  obtain ⟨e0, e2, _, _⟩ := h.cells
  obtain ⟨kb, off, u, rfl, hc, hN⟩ := hk 0 x rfl
  have hox := ord_kids ho 0 x rfl
  have hc2 := cell_below h.bel hc
  have hc2 : w.cell? ⟨kb, off, none⟩ = some (ptr u) := hc2
  have hor : n < 0 ∨ (m : Int) ≤ n := by
    rw [Nd.ord] at ho
    simp at ho
    omega
  have HL : Hid (Calls Tryz.prog 33 #[bbP bb, ptr u, .int .i64 (m : Int), .int .i64 n] w.drew (NodeO w0 w.drew bb pg mb ⟨6, q, m, n, [x]⟩ B U)) := by
    show Calls _ _ _ _ _
    by_cases hneg : n < 0
    · refine (rep_loop hneg h.draw hN hox hn (by omega)).mono fun e w' hq => ?_
      exact ⟨_, tNode x :: tLoop B.sts.length m :: List.replicate (m - 1) (tNode x), hq.1, by
        have := hq.2.1
        simpa using this, hq.2.2.c, steps_loop hneg h0, fine_loop hneg B⟩
    · obtain ⟨k, rfl⟩ : ∃ k : Nat, n = (k : Int) := ⟨n.toNat, by omega⟩
      refine (rep_c (by omega) (by omega) h.draw hN hox (by omega)).mono fun e w' hq => ?_
      refine ⟨B, (List.replicate (k - m) [tNode x, tFork B.first]).flatten ++ List.replicate m (tNode x), hq.1, ?_, hq.2.2.c, steps_rep h0 (by omega), fine_rep B (by omega)⟩
      have := hq.2.1
      rw [List.append_assoc, prs_rev] at this
      exact this
  have HD : Hid (∀ w' B' U', Bu w0 w' bb pg mb B' U' → w'.cell? ⟨p, 257, none⟩ = some (.int .i64 (m : Int)) ∧ w'.cell? ⟨p, 258, none⟩ = some (.int .i64 n) ∧ w'.cell? ⟨p, 259, none⟩ = some (.slice (some ⟨kb, off, none⟩) 1 cap) ∧ w'.cell? ⟨kb, off, none⟩ = some (ptr u)) := Lib.hid fun w' B' U' k => ⟨(node_cells hB k).2.1, (node_cells hB k).2.2.1, (node_cells hB k).2.2.2, by
    have := cell_below k.bel hc
    exact this⟩
  clear h hx ho hB hk hN hc
  go_enter Tryz.func25, Tryz.ntmps25
  go_upto_region 13 with fail
  go_region_held3 (fun w' => w'.cell? ⟨p, 257, none⟩ = some (.int .i64 (m : Int)) ∧ w'.cell? ⟨p, 258, none⟩ = some (.int .i64 n) ∧ w'.cell? ⟨p, 259, none⟩ = some (.slice (some ⟨kb, off, none⟩) 1 cap) ∧ w'.cell? ⟨kb, off, none⟩ = some (ptr u)) (first | exact ⟨d1, d2, d3, hc2⟩ | exact HD.out _ _ _ H3.out.1) (first
    | (go_at_call 33; refine HL.out.mono ?_; rintro e w1 ⟨B', T, rfl, hq⟩; have H3 : Hid (Bu w0 w1 bb pg mb B' (U ++ T.reverse) ∧ True ∧ OnlyC bTys w.drew w1 ∧ StepF ⟨6, q, m, n, [x]⟩ B B' T) := Lib.hid ⟨hq.1, trivial, hq.2.1, hq.2.2⟩; clear hq))
  all_goals
    go_wp2_with fail
    go_end0
    exact ⟨B', T, rfl, H3.out.1, (show Only bTys w w.drew from ⟨Nat.le_refl _, fun _ _ h _ => h⟩).c.trans H3.out.2.2.1, H3.out.2.2.2⟩
end
end Go.Proofs.YtlekfdkahlobiaaGreat.Re
