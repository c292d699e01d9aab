/- A node that is a set; a node of whatever kind. -/
import Derived.Test.YtlekfdkahlobiaaGreatMSet2
import Derived.Test.YtlekfdkahlobiaaGreatMNodeR
namespace Go.Proofs.YtlekfdkahlobiaaGreat.Re
open Go.Proofs.YtlekfdkahlobiaaGreat.Tr
open Go.RowKit Go.Maps

section
variable {w0 w : World} {bb pg mb : Nat} {B : Bst} {U : List Tsk}
theorem set_u {p : UInt8 → Bool} (h : Bu w0 w bb pg mb B U) (hn : B.sets.length ≤ 1099511627) :
    Calls Tryz.prog 30 #[bbP bb, bl p] w (SetO w0 w bb pg mb p B U) := by
  obtain ⟨_, f, hm, hN⟩ := h.numb
  cases hf : f p with
  | none => exact set_new h hm hf hN hn
  | some v => exact set_had h hm hf (hN p v hf)
theorem mset_range {T : Nat} {w : World} {b k : Nat} {p : UInt8 → Bool} {m n : Int} {kv : Value} (h : BlkAt T w b k p m n kv) : w.rangeAt b 1 (boolsL p) := by
  intro j v hv
  have hj : j < 256 := by have := (List.getElem?_eq_some_iff.1 hv).1; rw [boolsL_len] at this; exact this
  have hp : v = .bool (p (UInt8.ofNat j)) := by simp [boolsL, hj] at hv; exact hv.symm
  rw [hp]
  exact h_cell h (1 + j) (ndC_has k p m n kv j hj)
set_option maxHeartbeats 4000000 in
set_option maxRecDepth 100000 in
theorem node_set {p : Nat} {q : UInt8 → Bool} {m n : Int} {l : List Nd} (h0 : 0 < B.sts.length) (hn : B.sts.length ≤ 1099511627776) (hn2 : B.sets.length ≤ 1099511627) (h : Bu w0 w bb pg mb B U) (hx : NodeP w0 (ptr p) ⟨1, q, m, n, l⟩) :
    Calls Tryz.prog 25 #[bbP bb, ptr p] w (NodeO w0 w bb pg mb ⟨1, q, m, n, l⟩ B U) := by
  obtain ⟨b, a, cap, e, hB, hcap, hk⟩ := kids_open hx
  cases e
  obtain ⟨d0, d1, d2, d3⟩ := node_cells hB h
  obtain ⟨c0, c2, _, _⟩ := h.cells
  have hBw : BlkAt 64 w p 1 q m n (.slice a l.length cap) := (h.bel.block _ (h_lt hB)).trans hB
  have hr : w.rangeAt p 1 (boolsL q) := mset_range hBw
  have i51 : (Tryz.prog.info? 40).map (·.size) = some (boolsL q).length := by rw [boolsL_len]; exact info256
  have HL := Lib.hid (set_u (p := q) h hn2)
  have HP : Hid (∀ (i : Nat) (B' : Bst) (w' : World), (B' = B ∨ B' = B.addSet q) → B'.sets[i]? = some q → Bu w0 w' bb pg mb B' U → Calls Tryz.prog 24 #[bbP bb, stV 1 i B.first 0] w' (BuO w0 w' bb pg mb (B'.put ⟨1, i, B.first, 0⟩) U)) := Lib.hid fun i B' w' e1 _ e3 => put_u (s := ⟨1, i, B.first, 0⟩) e3 (by rcases e1 with rfl | rfl <;> exact hn)
  have HS : Hid (∀ (i : Nat) (B' : Bst) (w1 w' : World), (B' = B ∨ B' = B.addSet q) → B'.sets[i]? = some q → OnlyC bTys w w1 → Bu w0 w' bb pg mb (B'.put ⟨1, i, B.first, 0⟩) U → Only bTys w1 w' → NodeO w0 w bb pg mb ⟨1, q, m, n, l⟩ B U (.returned (.tuple #[])) w') := Lib.hid fun i B' w1 w' e1 e2 e3 a1 a2 => ⟨B'.put ⟨1, i, B.first, 0⟩, [], rfl, by rw [List.reverse_nil, List.append_nil]; exact a1, e3.trans a2.c, (fun Bf e b => by
    have e : Bf = B'.put ⟨1, i, B.first, 0⟩ := e
    subst e
    rw [(st_kinds b q m n l).2.1]
    rcases e1 with rfl | rfl
    · exact D_set h0 e2
    · exact D_addSet (D_set (B := B.addSet q) h0 e2)), fine_set B B' e1 e2⟩
  clear h hx hB hk
  go_enter Tryz.func25, Tryz.ntmps25
  go_wp2_with fail
  refine wp_load_mid 40 (.tmp 22) rfl p 1 rfl (boolsL q) _ hr Tryz.underlying40 rfl i51 ?_
  clear hr hBw
  go_wp2_with (go_at_call 30; refine HL.out.mono ?_; rintro e w1 ⟨i, B', rfl, h1, h2, h3, h4⟩; have H1 := Lib.hid (And.intro h1 (And.intro h2 (And.intro h3 h4))); clear h1 h2 h3 h4)
  refine (HP.out i B' w1 H1.out.1 H1.out.2.1 H1.out.2.2.1).mono ?_
  rintro e w2 ⟨rfl, a1, a2⟩
  have H2 := Lib.hid (HS.out i B' w1 w2 H1.out.1 H1.out.2.1 H1.out.2.2.2 a1 a2)
  clear a1 a2 H1 HP HL
  go_wp2_with fail
  go_end0
  exact H2.out
/-- A node that may be. -/
theorem node_u {x : Nd} (hw : x.wf = true) (h0 : 0 < B.sts.length) (hn : B.sts.length ≤ 1099511627) (hn2 : B.sets.length ≤ 1099511627) (hl : U.length + Nd.size.sizes x.kids ≤ 1000000) : NodeC w0 w bb pg mb x B U := by
  intro p h hx ho
  obtain ⟨k, q, m, n, l⟩ := x
  have hl2 : l.length ≤ Nd.size.sizes l := by
    clear hw hl hx ho
    induction l with
    | nil => exact Nat.zero_le _
    | cons y l ih =>
      have := fsize_pos y
      rw [fsizes_cons, List.length_cons]
      omega
  have hl : U.length + Nd.size.sizes l ≤ 1000000 := hl
  have hw2 := hw
  rw [Nd.wf] at hw2
  simp only [Bool.and_eq_true, Bool.or_eq_true, decide_eq_true_eq] at hw2
  obtain ⟨⟨⟨⟨hk, hm0, hm1, hn0, hn1⟩, h6⟩, _⟩, _⟩ := hw2
  rcases (show k = 0 ∨ k = 1 ∨ k = 2 ∨ k = 3 ∨ k = 4 ∨ k = 5 ∨ k = 6 by omega) with rfl | rfl | rfl | rfl | rfl | rfl | rfl
  · exact node_none h hx
  · exact node_set h0 (by omega) hn2 h hx
  · exact node_ends (.inl rfl) h0 (by omega) h hx
  · exact node_ends (.inr rfl) h0 (by omega) h hx
  · exact node_cat h hx ho (by omega)
  · have hne : l ≠ [] := fun e => by
      subst e
      rw [Nd.ord] at ho
      simp at ho
    obtain ⟨l', y, rfl⟩ : ∃ l' y, l = l' ++ [y] := ⟨l.dropLast, l.getLast hne, (List.dropLast_concat_getLast hne).symm⟩
    rw [List.length_append] at hl2
    exact node_alt h0 h hx ho (by simp only [List.length_cons, List.length_nil] at hl2; omega)
  · rcases h6 with h6 | h6
    · exact absurd rfl h6
    · obtain ⟨y, rfl⟩ := List.length_eq_one_iff.1 h6
      obtain ⟨m', rfl⟩ : ∃ m' : Nat, m = (m' : Int) := ⟨m.toNat, by omega⟩
      exact node_rep (by omega) (by omega) h0 (by omega) h hx ho (by omega)
end
end Go.Proofs.YtlekfdkahlobiaaGreat.Re
