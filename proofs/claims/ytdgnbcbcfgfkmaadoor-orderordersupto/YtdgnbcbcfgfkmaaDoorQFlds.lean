/- A line's fields, by the reference. -/
import Derived.Test.YtdgnbcbcfgfkmaaDoorQNum3
namespace Go.Proofs.YtdgnbcbcfgfkmaaDoor
open Go.RowKit

def flCells (l : List (Nat × Nat)) : List Value := l.flatMap fun p => [.int .i64 (p.1 : Int), .int .i64 (p.2 : Int)]
theorem flCells_snoc (l : List (Nat × Nat)) (p : Nat × Nat) : flCells (l ++ [p]) = flCells l ++ [.int .i64 (p.1 : Int), .int .i64 (p.2 : Int)] := by simp [flCells]
theorem flCells_length (l : List (Nat × Nat)) : (flCells l).length = l.length * 2 := by
  induction l with
  | nil => rfl
  | cons a l ih => rw [flCells, List.flatMap_cons, List.length_append]; have := ih; unfold flCells at this; rw [this]; simp; omega
theorem flCells_at (l : List (Nat × Nat)) : ∀ (j : Nat) (h : j < l.length), (flCells l)[j * 2]? = some (.int .i64 ((l[j]).1 : Int)) ∧ (flCells l)[j * 2 + 1]? = some (.int .i64 ((l[j]).2 : Int)) := by
  induction l with
  | nil => intro j hj; simp at hj
  | cons p l ih =>
    intro j hj
    have e : flCells (p :: l) = [.int .i64 (p.1 : Int), .int .i64 (p.2 : Int)] ++ flCells l := by simp [flCells]
    rw [e]
    cases j with
    | zero => simp
    | succ j =>
      have := ih j (by simpa using hj)
      rw [List.getElem?_append_right (by simp; omega), List.getElem?_append_right (by simp; omega)]
      have e1 : (j + 1) * 2 - 2 = j * 2 := by omega
      have e2 : (j + 1) * 2 + 1 - 2 = j * 2 + 1 := by omega
      simp only [List.length_cons, List.length_nil, Nat.zero_add, Nat.reduceAdd, e1, e2]
      simpa using this
abbrev FlAt (w : World) (base : Nat) (v : Value) (l : List (Nat × Nat)) : Prop := w.ownsRow base 90 2 v l.length (flCells l)
theorem fl_snoc {w : World} {base : Nat} {v : Value} {l : List (Nat × Nat)} {a b : Nat} (h : w.ownsRow base 90 2 v (l.length + 1) (flCells l ++ [.int .i64 (a : Int), .int .i64 (b : Int)])) : FlAt w base v (l ++ [(a, b)]) := by
  unfold FlAt; rw [flCells_snoc, List.length_append]; exact h
theorem info_fl : (Tryd.prog.info? 90).map (fun i => (i.zero, i.size, i.bytes)) = some (some (.agg #[.int .i64 0, .int .i64 0]), 2, 16) := by kernel_rfl
def sepI (s : Option UInt8) : Int := match s with | none => -1 | some c => (c.toNat : Int)

theorem fldsC_len (c : UInt8) : ∀ (s : List UInt8) (b i : Nat), (fldsC c s b i).length ≤ s.length + 1
  | [], b, i => by simp [fldsC]
  | x :: r, b, i => by
    rw [fldsC]
    split
    · have := fldsC_len c r (i + 1) (i + 1); simp; omega
    · have := fldsC_len c r b (i + 1); simp; omega
theorem fldsC_step (c : UInt8) (d : List UInt8) (k b : Nat) (h : k < d.length) : fldsC c (d.drop k) b k = if d[k] = c then (b, k) :: fldsC c (d.drop (k + 1)) (k + 1) (k + 1) else fldsC c (d.drop (k + 1)) b (k + 1) := by
  rw [List.drop_eq_getElem_cons h, fldsC]

set_option maxHeartbeats 4000000 in
set_option maxRecDepth 100000 in
theorem fields_sep (p : Nat) (c : UInt8) (v : Value) (d : List UInt8) (w : World) (hd : d.length ≤ 2097152) (hp : w.cell? ⟨p, 7, none⟩ = some (.int .i64 (c.toNat : Int))) (hB : ByAt w v d) :
    Calls Tryd.prog 42 #[.pointer (some ⟨p, 0, none⟩), v] w fun e w' => ∃ fv, e = .returned fv ∧ FlAt w' w.heap.size fv (fieldsS (some c) d) ∧ Below w.heap.size w w' := by
  obtain ⟨i0, hi, hz0, hz1, hz2⟩ := info_parts2 info_fl
  obtain ⟨x, cp, rfl⟩ := hB.shape
  have HR := Lib.hid (show fieldsS (some c) d = [] ++ fldsC c (d.drop 0) 0 0 from rfl)
  have hFl := fldsC_len c d 0 0
  rw [show fldsC c d 0 0 = fieldsS (some c) d from rfl] at hFl
  generalize fieldsS (some c) d = R at HR hFl ⊢
  have HB := Lib.hid hB
  have hpl := World.block_lt_of_cell? w _ hp
  have hcn := c.toNat_lt
  clear hB
  generalize hn : d.length = n at hd hFl ⊢
  have HN := Lib.hid hn
  clear hn
  go_enter Tryd.func42, Tryd.ntmps42
  go_wp2_with fail
  go_loopw [5, 6, 7] (fun ov fv iv wr => ∃ (k fb : Nat) (L : List (Nat × Nat)), k ≤ n + 1 ∧ fb ≤ k ∧ iv = .int .i64 k ∧ fv = .int .i64 fb ∧ L.length ≤ n + 1 ∧ Hid (k ≤ n → R = L ++ fldsC c (d.drop k) fb k) ∧ Hid (k = n + 1 → R = L) ∧ Hid (FlAt wr w.heap.size ov L) ∧ Below w.heap.size w wr) (fun _ _ iv _ => n + 1 - (intOf iv).toNat)
  case atStart => exact ⟨0, 0, [], by omega, by omega, rfl, rfl, by simp, fun _ => HR.out, fun h => by omega, World.ownsRow_nil _ _ _ _, Below.refl _ _⟩
  case round =>
    obtain ⟨k, fb, L, hk, hfk, rfl, rfl, hL, HI, HE, HO, hbl⟩ := hrel
    have hpr : wr.cell? ⟨p, 7, none⟩ = some (.int .i64 (c.toNat : Int)) := (hbl.cell (p := ⟨p, 7, none⟩) hpl).trans hp
    by_cases hlt : k < n
    · obtain ⟨b, off, rfl, _, hcap, hb, hc⟩ := HB.out.some (by rw [HN.out]; omega)
      have hkd : k < d.length := by rw [HN.out]; exact hlt
      have hcx : wr.cell? ⟨b, off + k, none⟩ = some (.int .u8 ((d[k]).toNat : Int)) := (hbl.cell (p := ⟨b, off + k, none⟩) hb).trans (hc k hkd)
      have HJ := HI.out (by omega)
      rw [fldsC_step c d k fb hkd] at HJ
      have ek : ((k : Int) == (n : Int)) = false := by rw [beq_eq_false_iff_ne]; omega
      have nk : ¬ k = n := by omega
      by_cases hx : d[k] = c
      · have e1 : (((d[k]).toNat : Int) == (c.toNat : Int)) = true := by rw [hx]; simp
        rw [if_pos hx] at HJ
        have n1 : (d[k]).toNat = c.toNat := by rw [hx]
        have hL2 : L.length + 1 ≤ n + 1 := by have := congrArg List.length HJ; simp at this; omega
        have HJ' : Hid (R = (L ++ [(fb, k)]) ++ fldsC c (d.drop (k + 1)) (k + 1) (k + 1)) := by show R = _; rw [HJ, List.append_assoc]; rfl
        clear HI HJ HE hc hcap hx
        generalize d[k] = y at *
        go_wp2_with fail
        go_region
        have HOd : Hid (FlAt wr.drew w.heap.size u5 L) := HO.out
        clear HO
        have HO := HOd
        go_wp2_with (first | (at_builtin; refine wpList_append_own _ rfl _ _ 88 rfl w.heap.size 90 i0 (.agg #[.int .i64 0, .int .i64 0]) 2 16 Tryd.underlying88 hi hz0 hz1 hz2 rfl (by decide) _ _ _ rfl (HO.out.alloc _) ⟨wr.drew.heap.size, 0, none⟩ 1 1 [.int .i64 (fb : Int), .int .i64 (k : Int)] rfl rfl (cell_two_new _ _ _ _) (by simp [Value.oneCell']) (by unfold maxLen; omega) (by omega) (by have := hbl.size; simp; omega) ?_; intro v2 w2 hown2 hgrow2 _))
        have hbd : Below w.heap.size w wr.drew := hbl.drew
        have hbw2 : Below w.heap.size w w2 := (hbd.alloc hbd.size _).grown hgrow2 (by have := hbl.size; simp; omega) (fun j ej => own_ge2 HO.out j ej)
        exact ⟨⟨k + 1, k + 1, L ++ [(fb, k)], by omega, by omega, by go_num, by go_num, by simp; omega, fun _ => HJ'.out, fun h => by omega, fl_snoc hown2, hbw2⟩, by simp [intOf]; omega⟩
      · have e1 : (((d[k]).toNat : Int) == (c.toNat : Int)) = false := by rw [u8_beq]; simpa using hx
        rw [if_neg hx] at HJ
        have n1 : ¬ (d[k]).toNat = c.toNat := fun e => hx (UInt8.toNat_inj.1 e)
        have HJ' := Lib.hid HJ
        clear HI HJ HE hc hcap
        generalize d[k] = y at *
        have hyn := y.toNat_lt
        have n2 : (wrap64 (y.toNat : Int) == (c.toNat : Int)) = false := by rw [show wrap64 (y.toNat : Int) = y.toNat by unfold wrap64; omega]; exact e1
        go_wp2_with fail
        go_region
        go_wp2_with fail
        exact ⟨⟨k + 1, fb, L, by omega, by omega, by go_num, rfl, hL, fun _ => HJ'.out, fun h => by omega, HO, hbl.drew⟩, by simp [intOf]; omega⟩
    · by_cases he : k = n
      · subst he
        have ek : ((k : Int) == (k : Int)) = true := by simp
        have HJ := HI.out (by omega)
        rw [List.drop_eq_nil_of_le (by rw [HN.out]; exact Nat.le_refl _), fldsC] at HJ
        have hL2 : L.length + 1 ≤ k + 1 := by have := congrArg List.length HJ; simp at this; omega
        have HJ' := Lib.hid HJ
        clear HI HJ HE
        go_wp2_with fail
        go_region
        have HOd : Hid (FlAt wr.drew w.heap.size u5 L) := HO.out
        clear HO
        have HO := HOd
        go_wp2_with (first | (at_builtin; refine wpList_append_own _ rfl _ _ 88 rfl w.heap.size 90 i0 (.agg #[.int .i64 0, .int .i64 0]) 2 16 Tryd.underlying88 hi hz0 hz1 hz2 rfl (by decide) _ _ _ rfl (HO.out.alloc _) ⟨wr.drew.heap.size, 0, none⟩ 1 1 [.int .i64 (fb : Int), .int .i64 (k : Int)] rfl rfl (cell_two_new _ _ _ _) (by simp [Value.oneCell']) (by unfold maxLen; omega) (by omega) (by have := hbl.size; simp; omega) ?_; intro v2 w2 hown2 hgrow2 _))
        have hbd : Below w.heap.size w wr.drew := hbl.drew
        have hbw2 : Below w.heap.size w w2 := (hbd.alloc hbd.size _).grown hgrow2 (by have := hbl.size; simp; omega) (fun j ej => own_ge2 HO.out j ej)
        exact ⟨⟨k + 1, k + 1, L ++ [(fb, k)], by omega, by omega, by go_num, by go_num, by simp; omega, fun h => by omega, fun _ => HJ'.out, fl_snoc hown2, hbw2⟩, by simp [intOf]⟩
      · have HJ := HE.out (by omega)
        clear HI HE
        have hgt : ¬ k ≤ n := by omega
        go_wp2_with fail
        go_ret
        exact ⟨_, rfl, by rw [HJ]; exact HO.out, hbl⟩
end Go.Proofs.YtdgnbcbcfgfkmaaDoor
