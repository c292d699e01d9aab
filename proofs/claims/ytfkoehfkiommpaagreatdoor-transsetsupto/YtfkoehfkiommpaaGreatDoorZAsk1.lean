/- What is asked of the program's tr; the law's own call of it. -/
import Derived.Deep.RegionLaw
import Derived.Lib.SlBytesConst
import Derived.Test.YtfkoehfkiommpaaGreatDoorZSet3
import Derived.Test.YtfkoehfkiommpaaGreatDoorZNext
import Derived.Laws.Tables
import Derived.Deep.WholeRow
import Derived.Laws.Rows
import Derived.Laws.CopyOwn
namespace Go.Proofs.YtfkoehfkiommpaaGreatDoor.Tr
open Go.Proofs.YtfkoehfkiommpaaGreatDoor.Op
open Go.RowKit

def trName : ByteArray := ⟨#[116, 114]⟩
/-- A job of tr. -/
abbrev jobT (av iv : Value) (l1 l2 l3 : Int) : Value := .agg #[av, .slice none 0 0, .string ⟨#[]⟩, iv, .slice none 0 0, .int .i64 l1, .int .i64 l2, .int .i64 l3, .slice none 0 0, .int .i64 0, .slice none 0 0]
/-- Limits that may be. -/
def LimOk (l1 l2 l3 : Int) : Prop := (1 ≤ l1 ∧ l1 ≤ 1099511627776) ∧ 1 ≤ l2 ∧ l2 ≤ l3 ∧ l3 ≤ 1099511627776
/-- What a run comes to: what was told, and the rest of the result. -/
def resT (ov : Value) (a : Option Addr) (n c : Nat) (st n1 n2 n3 : Int) : Value := .agg #[ov, .slice a n c, .int .i64 st, .slice none 0 0, .int .i64 n1, .int .i64 n2, .int .i64 n3]
def RunT (w : World) (o : List UInt8) (e : Ending) (w' : World) : Prop :=
  ∃ ov a n c st n1 n2 n3, e = .returned (.tuple #[resT ov a n c st n1 n2 n3, .bool true]) ∧ Row w' w.heap.size ov o ∧ Below w.heap.size w w'
/-- Options and operands of which the laws speak. -/
def plainR (l : Opts) : List ByteArray → Bool
  | [_] => !hasO l 67
  | [a, b] => !hasO l 67 && !hasO l 100 && (if hasO l 99 then decide ((setS b.data.toList).2.1 = 0) && (setS b.data.toList).1.length == 1 && !(othersS (setS a.data.toList).1).isEmpty else decide ((setS b.data.toList).2.1 < 0))
  | _ => false
def plainA (sa : List ByteArray) : Bool := match parseS trSpec [] sa with
  | some (l, r) => plainR l r
  | none => false
/-- What is asked of the program. Amb: what is known of package variables. -/
structure Says (Amb : World → Prop) : Prop where
  keep : ∀ w w', Amb w → Below w.heap.size w w' → Amb w'
  set : ∀ (s : ByteArray) (w : World), Amb w → s.size ≤ 1048576 → Calls Tryz.prog 7 #[.string s] w fun e w' => ∃ v, e = .returned (.tuple #[v, .int .i64 (setS s.data.toList).2.1, .bool (setS s.data.toList).2.2]) ∧ ByAt w' v (setS s.data.toList).1 ∧ Below w.heap.size w w'
  run : ∀ (av iv : Value) (sa : List ByteArray) (ins : List UInt8) (l1 l2 l3 : Int) (t : Tr) (w : World), Amb w → StrsAt w av (trName :: sa) → ByAt w iv ins → ins.length ≤ 1048576 → sa.length ≤ 3 → tot sa ≤ 4096 → LimOk l1 l2 l3 → trA sa = some t → plainA sa = true → Calls Tryz.prog 22 #[jobT av iv l1 l2 l3] w (RunT w (t.all ins))

theorem strs_own {W : World} {base n : Nat} {v : Value} {l : List ByteArray} (h : W.ownsRow base 9 1 v n (l.map .string)) (hn : n = l.length) : StrsAt W v l := by
  subst hn
  rcases h.2 with ⟨rfl, h0⟩ | ⟨g, cap, cur, rfl, hb, hg, hle, hcap, hsz, ht⟩
  · exact .inl ⟨rfl, List.length_eq_zero_iff.1 h0⟩
  · refine .inr ⟨g, 0, cap, rfl, ⟨hle, by unfold maxLen at hcap; exact hcap⟩, h_lt hg, fun j hj => ?_⟩
    have h1 := own_cell2 h j (by omega)
    rw [Nat.zero_add, h1]
    simp [nth, hj]
theorem news_strs {w : World} {b off : Nat} {ss : List ByteArray} (h : ∀ j, j < ss.length → w.cell? ⟨b, off + j, none⟩ = some (.string (nth ss j))) : ∀ j u, (ss.map Value.string)[j]? = some u → w.cell? ((⟨b, off, none⟩ : Addr).add j) = some u := by
  intro j u hu
  have hj : j < ss.length := by have := (List.getElem?_eq_some_iff.1 hu).1; simpa using this
  rw [Addr.add_lit, h j hj, ← hu]
  simp [nth, hj]
theorem strs_one (l : List ByteArray) : ∀ u ∈ l.map Value.string, u.oneCell' = true := by
  intro u hu
  simp only [List.mem_map] at hu
  obtain ⟨s, _, rfl⟩ := hu
  rfl
theorem own_new1 (w : World) (x : Value) (base : Nat) (hb : base ≤ w.heap.size) : (w.alloc (.cells #[x] 9)).ownsRow base 9 1 (.slice (some ⟨w.heap.size, 0, none⟩) 1 1) 1 [x] :=
  ⟨rfl, .inr ⟨w.heap.size, 1, #[x], rfl, hb, by show (w.heap.push _)[w.heap.size]? = _; simp, Nat.le_refl _, by decide, rfl, rfl⟩⟩

theorem row_low {W : World} {B B' : Nat} {v : Value} {l : List UInt8} (h : Row W B v l) (hb : B' ≤ B) : Row W B' v l := by
  refine ⟨h.1, ?_⟩
  rcases h.2 with hn | ⟨g, cap, cur, h1, hb2, r⟩
  · exact .inl hn
  · exact .inr ⟨g, cap, cur, h1, by omega, r⟩
theorem set7 {w : World} {rb T : Nat} {a0 a1 a2 a3 a4 a5 a6 : Value} (h : w.heap[rb]? = some (.cells #[a0, a1, a2, a3, a4, a5, a6] T)) (b0 b1 b2 b3 b4 b5 b6 : Value) :
    (((((((w.setCell ⟨rb, 0, none⟩ b0).setCell ⟨rb, 1, none⟩ b1).setCell ⟨rb, 2, none⟩ b2).setCell ⟨rb, 3, none⟩ b3).setCell ⟨rb, 4, none⟩ b4).setCell ⟨rb, 5, none⟩ b5).setCell ⟨rb, 6, none⟩ b6).heap[rb]? = some (.cells #[b0, b1, b2, b3, b4, b5, b6] T) := by
  have := h_set (h_set (h_set (h_set (h_set (h_set (h_set h 0 b0) 1 b1) 2 b2) 3 b3) 4 b4) 5 b5) 6 b6
  simpa using this
theorem below7 {w0 w : World} {B rb : Nat} (h : Below B w0 w) (hb : B ≤ rb) (b0 b1 b2 b3 b4 b5 b6 : Value) :
    Below B w0 (((((((w.setCell ⟨rb, 0, none⟩ b0).setCell ⟨rb, 1, none⟩ b1).setCell ⟨rb, 2, none⟩ b2).setCell ⟨rb, 3, none⟩ b3).setCell ⟨rb, 4, none⟩ b4).setCell ⟨rb, 5, none⟩ b5).setCell ⟨rb, 6, none⟩ b6) :=
  ((((((h.setCell (p := ⟨rb, 0, none⟩) hb _).setCell (p := ⟨rb, 1, none⟩) hb _).setCell (p := ⟨rb, 2, none⟩) hb _).setCell (p := ⟨rb, 3, none⟩) hb _).setCell (p := ⟨rb, 4, none⟩) hb _).setCell (p := ⟨rb, 5, none⟩) hb _).setCell (p := ⟨rb, 6, none⟩) hb _
theorem row7 {w : World} {rb : Nat} {v : Value} {l : List UInt8} (h : Row w (rb + 1) v l) (b0 b1 b2 b3 b4 b5 b6 : Value) :
    Row (((((((w.setCell ⟨rb, 0, none⟩ b0).setCell ⟨rb, 1, none⟩ b1).setCell ⟨rb, 2, none⟩ b2).setCell ⟨rb, 3, none⟩ b3).setCell ⟨rb, 4, none⟩ b4).setCell ⟨rb, 5, none⟩ b5).setCell ⟨rb, 6, none⟩ b6) (rb + 1) v l :=
  row_set (row_set (row_set (row_set (row_set (row_set (row_set h 0 b0) 1 b1) 2 b2) 3 b3) 4 b4) 5 b5) 6 b6
theorem infoRs : (Tryz.prog.info? 38).map (·.size) = some 7 := by kernel_rfl
theorem results_rs {fn : Func} {p u : Tmp} (h : fn.results = #[.cell p 38, .tmp u]) {tmps : Array Value} {w : World} {b : Nat} {x0 x1 x2 x3 x4 x5 x6 v : Value} (hp : tmps.getD p undef = .pointer (some ⟨b, 0, none⟩)) (hg : w.heap[b]? = some (.cells #[x0, x1, x2, x3, x4, x5, x6] 38))
    (hv : tmps.getD u undef = v) : (results fn tmps).run Tryz.prog w = .ok (.tuple #[.agg #[x0, x1, x2, x3, x4, x5, x6], v]) w := by
  rw [results_cell_tmp h, hp, hv]
  simp [asAddr, Result.andThen, run_loadVar_row w b 38 38 #[x0, x1, x2, x3, x4, x5, x6] (0, 0) _ hg Tryz.underlying38 rfl infoRs]
def res0 : Array Value := #[.slice none 0 0, .slice none 0 0, .int .i64 0, .slice none 0 0, .int .i64 0, .int .i64 0, .int .i64 0]
set_option maxHeartbeats 4000000 in
set_option maxRecDepth 100000 in
theorem tr_c {Amb : World → Prop} (S : Says Amb) (av iv : Value) (sa : List ByteArray) (ins : List UInt8) (l1 l2 l3 : Int) (t : Tr) (w : World) (hA : Amb w) (hS : StrsAt w av sa) (hI : ByAt w iv ins) (hn : ins.length ≤ 1048576) (h0 : 0 < sa.length) (h3 : sa.length ≤ 3) (ht : tot sa ≤ 4096) (hl : LimOk l1 l2 l3) (hT : trA sa = some t) (hpl : plainA sa = true) :
    Calls Tryz.prog 11 #[iv, av, .agg #[.int .i64 l1, .int .i64 l2, .int .i64 l3]] w (RunT w (t.all ins)) := by
  obtain ⟨j0, ji, jz0, jz1, jz2⟩ := info_parts2 info_str
  obtain ⟨ia, ic, rfl⟩ := hI.shape
  rcases hS with ⟨rfl, rfl⟩ | ⟨b, off, cap, rfl, hcap, hb, hc⟩
  · simp at h0
  have HC := Lib.hid hc
  have HI := Lib.hid hI
  clear hc hI
  go_enter Tryz.func11, Tryz.ntmps11
  go_wp2_with fail
  have hBW : Below w.heap.size w ((w.alloc (Obj.cells #[Value.int IntKind.i64 l1, Value.int IntKind.i64 l2, Value.int IntKind.i64 l3] 28)).alloc (Obj.cells res0 38)) := ((Below.refl _ w).alloc (Nat.le_refl _) _).alloc (by simp) _
  have hL : ((w.alloc (Obj.cells #[Value.int IntKind.i64 l1, Value.int IntKind.i64 l2, Value.int IntKind.i64 l3] 28)).alloc (Obj.cells res0 38)).heap[w.heap.size]? = some (.cells #[.int .i64 l1, .int .i64 l2, .int .i64 l3] 28) := by
    show ((w.heap.push _).push _)[w.heap.size]? = _
    rw [Array.getElem?_push_lt (by simp)]
    simp
  have hR : ((w.alloc (Obj.cells #[Value.int IntKind.i64 l1, Value.int IntKind.i64 l2, Value.int IntKind.i64 l3] 28)).alloc (Obj.cells res0 38)).heap[w.heap.size + 1]? = some (.cells res0 38) := by
    have hs1 : w.heap.size + 1 = (w.heap.push (Obj.cells #[Value.int IntKind.i64 l1, Value.int IntKind.i64 l2, Value.int IntKind.i64 l3] 28)).size := by simp
    show ((w.heap.push _).push _)[w.heap.size + 1]? = _
    rw [hs1]
    exact Array.getElem?_push_size
  have hz : ((w.alloc (Obj.cells #[Value.int IntKind.i64 l1, Value.int IntKind.i64 l2, Value.int IntKind.i64 l3] 28)).alloc (Obj.cells res0 38)).heap.size = w.heap.size + 2 := by simp
  have e : (Obj.cells #[Value.slice none 0 0, Value.slice none 0 0, Value.int IntKind.i64 0, Value.slice none 0 0, Value.int IntKind.i64 0, Value.int IntKind.i64 0, Value.int IntKind.i64 0] 38) = .cells res0 38 := rfl
  rw [e]
  clear e
  generalize ((w.alloc (Obj.cells #[Value.int IntKind.i64 l1, Value.int IntKind.i64 l2, Value.int IntKind.i64 l3] 28)).alloc (Obj.cells res0 38)) = W at hBW hL hR hz ⊢
  have k0 : W.cell? ⟨w.heap.size, 0, none⟩ = some (.int .i64 l1) := h_cell hL 0 rfl
  have k1 : W.cell? ⟨w.heap.size, 1, none⟩ = some (.int .i64 l2) := h_cell hL 1 rfl
  have k2 : W.cell? ⟨w.heap.size, 2, none⟩ = some (.int .i64 l3) := h_cell hL 2 rfl
  have HW := Lib.hid (And.intro hBW (And.intro hL hR))
  have HSa := Lib.hid (And.intro hA (And.intro hn (And.intro h3 (And.intro ht (And.intro hl (And.intro hT hpl))))))
  have hcapL := hcap.1
  have hcapR := hcap.2
  clear hA hn ht hl hT hpl hBW hL hR hcap
  go_region_law (first
    | (refine step_append_lies _ rfl _ _ 31 rfl (w.heap.size + 2) 9 j0 (.string ⟨#[]⟩) 1 16 Tryz.underlying31 ji jz0 jz1 jz2 rfl (by decide) _ 1 [.string trName] (by simp [Act.eval, hz]) (own_new1 W.drew (.string trName) (w.heap.size + 2) (by show w.heap.size + 2 ≤ W.heap.size; omega)) ⟨b, off, none⟩ sa.length cap (sa.map .string) (by simp [Act.eval]) (by simp) (news_strs fun j hj => (((HW.out.1.trans (below_drew (Below.refl _ _))).alloc (by show w.heap.size ≤ W.heap.size; omega) _).cell (p := ⟨b, off + j, none⟩) hb).trans (HC.out j hj)) (strs_one sa) h0 (by unfold maxLen; omega) (by omega) (by show w.heap.size + 2 ≤ (W.heap.push _).size; simp; omega) _ rfl ?_; intro g cap2 w2 hown2 hgrow2 hat hlt2; have HB2 : Hid (Below (w.heap.size + 2) W w2) := ((below_drew (Below.refl (w.heap.size + 2) W)).alloc (by show w.heap.size + 2 ≤ W.heap.size; omega) _).grown hgrow2 (by show w.heap.size + 2 ≤ (W.heap.push _).size; simp; omega) (fun j ej => by have : W.heap.size = j := (by simpa [Value.ownBlock] using ej); omega); have m0 : w2.cell? ⟨w.heap.size, 0, none⟩ = some (.int .i64 l1) := (HB2.out.cell (p := ⟨w.heap.size, 0, none⟩) (by show w.heap.size < _; omega)).trans k0; have m1 : w2.cell? ⟨w.heap.size, 1, none⟩ = some (.int .i64 l2) := (HB2.out.cell (p := ⟨w.heap.size, 1, none⟩) (by show w.heap.size < _; omega)).trans k1; have m2 : w2.cell? ⟨w.heap.size, 2, none⟩ = some (.int .i64 l3) := (HB2.out.cell (p := ⟨w.heap.size, 2, none⟩) (by show w.heap.size < _; omega)).trans k2; have HB3 : Hid (Below w.heap.size w w2) := HW.out.1.trans (HB2.out.mono (by omega)); have hrun := S.run (.slice (some ⟨g, 0, none⟩) (1 + sa.length) cap2) (.slice ia ins.length ic) sa ins l1 l2 l3 t w2 (S.keep _ _ HSa.out.1 HB3.out) (strs_own (l := trName :: sa) hown2 (by simp; omega)) (HI.out.below HB3.out) HSa.out.2.1 HSa.out.2.2.1 HSa.out.2.2.2.1 HSa.out.2.2.2.2.1 HSa.out.2.2.2.2.2.1 HSa.out.2.2.2.2.2.2; clear hown2 hgrow2 hat)
    | (go_simp; go_at_call 22; refine hrun.mono ?_; rintro e w3 ⟨ov, ea, en, ec, st, n1, n2, n3, rfl, hO3, hB3⟩; unfold resT; obtain ⟨oa, oc, rfl⟩ := own_slice2 hO3; have HO3 := Lib.hid (And.intro hO3 hB3); have hR3 : w3.heap[w.heap.size + 1]? = some (.cells res0 38) := (hB3.block (w.heap.size + 1) (Nat.lt_of_lt_of_le (h_lt HW.out.2.2) HB2.out.size)).trans ((HB2.out.block (w.heap.size + 1) (by omega)).trans HW.out.2.2); have v0 := h_cell hR3 0 rfl; have v1 := h_cell hR3 1 rfl; have v2 := h_cell hR3 2 rfl; have v3 := h_cell hR3 3 rfl; have v4 := h_cell hR3 4 rfl; have v5 := h_cell hR3 5 rfl; have v6 := h_cell hR3 6 rfl; have y0 := h_fz hR3 0; have y1 := h_fz hR3 1; have y2 := h_fz hR3 2; have y3 := h_fz hR3 3; have y4 := h_fz hR3 4; have y5 := h_fz hR3 5; have y6 := h_fz hR3 6; clear hrun hO3 hB3))
  all_goals
    try simp only [Act.put, List.getElem_toArray, List.getElem_cons_succ, List.getElem_cons_zero, List.setIfInBounds_toArray, List.set_cons_succ, List.set_cons_zero]
    have hR4 : (((((((w3.setCell ⟨w.heap.size + 1, 0, none⟩ (.slice oa (t.all ins).length oc)).setCell ⟨w.heap.size + 1, 1, none⟩ (.slice ea en ec)).setCell ⟨w.heap.size + 1, 2, none⟩ (.int .i64 st)).setCell ⟨w.heap.size + 1, 3, none⟩ (.slice none 0 0)).setCell ⟨w.heap.size + 1, 4, none⟩ (.int .i64 n1)).setCell ⟨w.heap.size + 1, 5, none⟩ (.int .i64 n2)).setCell ⟨w.heap.size + 1, 6, none⟩ (.int .i64 n3)).heap[w.heap.size + 1]? = some (.cells #[.slice oa (t.all ins).length oc, .slice ea en ec, .int .i64 st, .slice none 0 0, .int .i64 n1, .int .i64 n2, .int .i64 n3] 38) := set7 hR3 _ _ _ _ _ _ _
    have hB4 : Below w.heap.size w (((((((w3.setCell ⟨w.heap.size + 1, 0, none⟩ (.slice oa (t.all ins).length oc)).setCell ⟨w.heap.size + 1, 1, none⟩ (.slice ea en ec)).setCell ⟨w.heap.size + 1, 2, none⟩ (.int .i64 st)).setCell ⟨w.heap.size + 1, 3, none⟩ (.slice none 0 0)).setCell ⟨w.heap.size + 1, 4, none⟩ (.int .i64 n1)).setCell ⟨w.heap.size + 1, 5, none⟩ (.int .i64 n2)).setCell ⟨w.heap.size + 1, 6, none⟩ (.int .i64 n3)) := below7 (HB3.out.trans (HO3.out.2.mono HB3.out.size)) (Nat.le_succ _) _ _ _ _ _ _ _
    have hO4 : Row (((((((w3.setCell ⟨w.heap.size + 1, 0, none⟩ (.slice oa (t.all ins).length oc)).setCell ⟨w.heap.size + 1, 1, none⟩ (.slice ea en ec)).setCell ⟨w.heap.size + 1, 2, none⟩ (.int .i64 st)).setCell ⟨w.heap.size + 1, 3, none⟩ (.slice none 0 0)).setCell ⟨w.heap.size + 1, 4, none⟩ (.int .i64 n1)).setCell ⟨w.heap.size + 1, 5, none⟩ (.int .i64 n2)).setCell ⟨w.heap.size + 1, 6, none⟩ (.int .i64 n3)) (w.heap.size + 1 + 1) (.slice oa (t.all ins).length oc) (t.all ins) := row7 (row_low HO3.out.1 (by have := HB2.out.size; omega)) _ _ _ _ _ _ _
    generalize (((((((w3.setCell ⟨w.heap.size + 1, 0, none⟩ (.slice oa (t.all ins).length oc)).setCell ⟨w.heap.size + 1, 1, none⟩ (.slice ea en ec)).setCell ⟨w.heap.size + 1, 2, none⟩ (.int .i64 st)).setCell ⟨w.heap.size + 1, 3, none⟩ (.slice none 0 0)).setCell ⟨w.heap.size + 1, 4, none⟩ (.int .i64 n1)).setCell ⟨w.heap.size + 1, 5, none⟩ (.int .i64 n2)).setCell ⟨w.heap.size + 1, 6, none⟩ (.int .i64 n3)) = W4 at hR4 hB4 hO4 ⊢
    clear v0 v1 v2 v3 v4 v5 v6 y0 y1 y2 y3 y4 y5 y6 hR3 HO3
    go_wp2_with fail
    refine bodyPost_ret (results_rs rfl rfl hR4 rfl) rfl ?_
    exact ⟨_, ea, en, ec, st, n1, n2, n3, rfl, row_low hO4 (by omega), hB4⟩
end Go.Proofs.YtfkoehfkiommpaaGreatDoor.Tr

namespace Go.Proofs.YtfkoehfkiommpaaGreatDoor.Tr
open Go.Proofs.YtfkoehfkiommpaaGreatDoor.Op
open Go.RowKit

theorem step_rest (l : List UInt8) (x : St) : ((stepS l).2 x).rest = x.rest ∨ ((stepS l).2 x).rest = x.out.length := by
  unfold stepS
  cases hC : classS l with
  | some p =>
    rcases l with _ | ⟨a, _ | ⟨b, t⟩⟩
    · cases hC
    · cases hC
    · rw [classS] at hC
      split at hC
      · cases hs : shutS t with
        | none => rw [hs] at hC; simp at hC
        | some k => rw [hs] at hC; simp at hC; subst hC; exact .inl rfl
      · cases hC
  | none =>
    cases hE : equalS l with
    | some p =>
      rcases l with _ | ⟨a, _ | ⟨b, _ | ⟨d, t⟩⟩⟩
      · cases hE
      · cases hE
      · cases hE
      · rw [equalS] at hE
        split at hE
        · simp at hE; subst hE; exact .inl rfl
        · cases hE
    | none =>
      cases hT : timesS l with
      | some p =>
        rcases l with _ | ⟨a, _ | ⟨b, t⟩⟩
        · cases hT
        · cases hT
        · rw [timesS] at hT
          split at hT
          · simp only at hT
            split at hT
            · simp at hT; subst hT; simp only [timesX]; split
              · exact .inl rfl
              · split
                · exact .inr rfl
                · exact .inl rfl
            · cases hT
          · cases hT
      | none =>
        simp only [plainS]
        split
        · exact .inl rfl
        · exact .inl rfl
theorem step_fits {l : List UInt8} (h : l ≠ []) : Fits l (stepS l) := by
  have hl := List.length_pos_iff.2 h
  unfold stepS
  cases hC : classS l with
  | some p => exact class_fits hC
  | none =>
    cases hE : equalS l with
    | some p => exact equal_fits hE
    | none =>
      cases hT : timesS l with
      | some p => exact times_fits hT
      | none => exact plain_fits hl
/-- Between two pieces. -/
structure Pd (w : World) (rb : Nat) (N : Nat) (R : St) (l o : List UInt8) (rest : Int) (wr : World) : Prop where
  at_ : ∃ cl, PAt wr rb l o rest cl ∧ (cl = true → shutS (l.drop 2) = none)
  le : l.length ≤ N
  out : o.length ≤ 65536 * (N - l.length)
  rst : -1 ≤ rest ∧ rest ≤ 65536 * (N : Int)
  run : ∃ n, l.length ≤ n ∧ setN n l ⟨o, rest, false⟩ = R
  below : Below rb w wr
def leftOf (w : World) (rb : Nat) : Nat := match w.cell? ⟨rb, 0, none⟩ with | some (.string s) => s.size | _ => 0
theorem leftOf_eq {w : World} {rb : Nat} {l o : List UInt8} {rest : Int} {cl : Bool} (h : PAt w rb l o rest cl) : leftOf w rb = l.length := by
  rw [leftOf, h.cells.1]
  simp [sb_size]
section
variable {w wr w1 : World} {rb N : Nat} {R : St} {l o : List UInt8} {rest : Int}
theorem Pd.step (h : Pd w rb N R l o rest wr) (h0 : l ≠ []) (hb : ((stepS l).2 ⟨o, rest, false⟩).bad = false) (hB : Below rb wr w1) (hx : ∃ cl, PAt w1 rb (l.drop (stepS l).1) ((stepS l).2 ⟨o, rest, false⟩).out ((stepS l).2 ⟨o, rest, false⟩).rest cl ∧ (cl = true → shutS (l.drop 2) = none)) :
    Pd w rb N R (l.drop (stepS l).1) ((stepS l).2 ⟨o, rest, false⟩).out ((stepS l).2 ⟨o, rest, false⟩).rest w1 ∧ leftOf w1 rb < leftOf wr rb := by
  have hf := step_fits h0
  have h1 := hf.pos
  have h2 := hf.le
  have h3 := hf.out ⟨o, rest, false⟩
  have h4 := h.out
  have h5 := h.le
  have h6 := h.rst
  have hr := step_rest l ⟨o, rest, false⟩
  obtain ⟨cl, hp, hcl⟩ := hx
  obtain ⟨cl0, hp0, _⟩ := h.at_
  obtain ⟨n, hn, hR⟩ := h.run
  obtain ⟨n, rfl⟩ : ∃ j, n = j + 1 := ⟨n - 1, by omega⟩
  have hst : (stepS l).2 ⟨o, rest, false⟩ = ⟨((stepS l).2 ⟨o, rest, false⟩).out, ((stepS l).2 ⟨o, rest, false⟩).rest, false⟩ := by
    have := St.mk.injEq ((stepS l).2 ⟨o, rest, false⟩).out ((stepS l).2 ⟨o, rest, false⟩).rest ((stepS l).2 ⟨o, rest, false⟩).bad ((stepS l).2 ⟨o, rest, false⟩).out ((stepS l).2 ⟨o, rest, false⟩).rest false
    exact this.mpr ⟨rfl, rfl, hb⟩
  refine ⟨⟨⟨cl, hp, fun e => ?_⟩, by rw [List.length_drop]; omega, ?_, ?_, ⟨n, by rw [List.length_drop]; omega, ?_⟩, h.below.trans hB⟩, ?_⟩
  · have := shut_drop (stepS l).1 (hcl e)
    rw [List.drop_drop] at this ⊢
    rw [Nat.add_comm]
    exact this
  · rw [List.length_drop]
    dsimp only at h3
    have e : N - (l.length - (stepS l).1) = (N - l.length) + (stepS l).1 := by omega
    rw [e]
    omega
  · rcases hr with e | e
    · rw [e]
      exact h6
    · rw [e]
      dsimp only
      omega
  · rw [← hst]
    cases hl : l with
    | nil => exact absurd hl h0
    | cons c r =>
      rw [hl, setN] at hR
      exact hR
  · rw [leftOf_eq hp, leftOf_eq hp0, List.length_drop]
    omega
theorem Pd.bad (h : Pd w rb N R l o rest wr) (h0 : l ≠ []) (hb : ((stepS l).2 ⟨o, rest, false⟩).bad = true) : setE R = ([], -1, false) := by
  obtain ⟨n, hn, hR⟩ := h.run
  have := List.length_pos_iff.2 h0
  obtain ⟨n, rfl⟩ : ∃ j, n = j + 1 := ⟨n - 1, by omega⟩
  cases hl : l with
  | nil => exact absurd hl h0
  | cons c r =>
    rw [hl, setN] at hR
    rw [hl] at hb
    rw [setE, if_pos (by rw [← hR]; exact setN_bad _ _ _ hb)]
end
set_option maxHeartbeats 4000000 in
set_option maxRecDepth 100000 in
theorem set_row (s : ByteArray) (w : World) (m : Int) (hm : w.cell? ⟨0, 0, none⟩ = some (.int .i64 m)) (hs : s.size ≤ 1048576) :
    Calls Tryz.prog 7 #[.string s] w fun e w' => ∃ v, e = .returned (.tuple #[v, .int .i64 (setS s.data.toList).2.1, .bool (setS s.data.toList).2.2]) ∧ Row w' w.heap.size v (setS s.data.toList).1 ∧ Below w.heap.size w w' := by
  have hg : 0 < w.heap.size := World.block_lt_of_cell? _ _ hm
  obtain ⟨L, hL⟩ : ∃ L, s.data.toList = L := ⟨_, rfl⟩
  have hsb : s = sb L := hL ▸ sb_of s
  have hLl : L.length ≤ 1048576 := by rw [← hL]; exact hs
  rw [hL, hsb]
  clear hL hsb hs s
  have HR := Lib.hid (show setS L = setE (setN L.length L st0) from rfl)
  obtain ⟨R, hR⟩ : ∃ R, setN L.length L st0 = R := ⟨_, rfl⟩
  rw [hR] at HR
  generalize setS L = SS at HR ⊢
  obtain ⟨rb, hrb⟩ : ∃ rb, rb = w.heap.size := ⟨_, rfl⟩
  have HI0 : Hid (Pd (w.alloc (.cells #[.string (sb L), .slice none 0 0, .int .i64 (-1), .bool false] 47)) rb L.length R L [] (-1) (w.alloc (.cells #[.string (sb L), .slice none 0 0, .int .i64 (-1), .bool false] 47))) :=
    ⟨⟨false, ⟨.slice none 0 0, (by subst hrb; show (w.heap.push _)[w.heap.size]? = _; simp), World.ownsRow_nil _ _ _ _⟩, by simp⟩, Nat.le_refl _, by simp, by omega, ⟨L.length, Nat.le_refl _, hR⟩, Below.refl _ _⟩
  have HB0 : Hid (∀ w', Below rb (w.alloc (.cells #[.string (sb L), .slice none 0 0, .int .i64 (-1), .bool false] 47)) w' → Below w.heap.size w w') := fun w' h => below_new (hrb ▸ h)
  have HM : Hid (∀ w', Below rb (w.alloc (.cells #[.string (sb L), .slice none 0 0, .int .i64 (-1), .bool false] 47)) w' → w'.cell? ⟨0, 0, none⟩ = some (.int .i64 m)) := fun w' h => ((HB0.out w' h).cell (p := ⟨0, 0, none⟩) hg).trans hm
  have HRB : Hid (w.heap.size ≤ rb + 1) := by show _ ≤ _; omega
  rw [← hrb] at hg
  clear hR hm
  go_enter Tryz.func7, Tryz.ntmps7
  go_wp2_with fail
  rw [← hrb]
  clear hrb
  generalize w.alloc (.cells #[.string (sb L), .slice none 0 0, .int .i64 (-1), .bool false] 47) = W at HI0 HB0 HM ⊢
  generalize Value.agg #[.string (sb L), .slice none 0 0, .int .i64 (-1), .bool false] = AG
  go_loopw [8] (fun _ wr => ∃ (l o : List UInt8) (rest : Int), Hid (Pd W rb L.length R l o rest wr)) (fun _ wr => leftOf wr rb)
  case atStart => exact ⟨L, [], -1, HI0⟩
  case round =>
    obtain ⟨l, o, rest, HP⟩ := hrel
    clear HI0
    obtain ⟨cl, hp, hcl⟩ := HP.out.at_
    have c0 := hp.cells.1
    by_cases h0 : l = []
    · subst h0
      obtain ⟨x1, ⟨xa, xc, x2⟩, x3, _⟩ := hp.cells
      have HE : Hid (SS = (o, rest, true)) := by
        obtain ⟨n, _, hn⟩ := HP.out.run
        have e : setN n [] ⟨o, rest, false⟩ = ⟨o, rest, false⟩ := by cases n <;> rfl
        rw [e] at hn
        show SS = _
        rw [HR.out, ← hn, setE, if_neg (by simp)]
      obtain ⟨ov, hps, hrow⟩ := hp
      have hov : ov = .slice xa o.length xc := by
        have := h_cell hps 1 rfl
        rw [x2] at this
        exact (Option.some.inj this).symm
      rw [hov] at hrow
      have HO := Lib.hid hrow
      clear hps hrow hov hcl
      go_wp2_with fail
      go_quiet (fail)
      go_wp2_with fail
      go_ret3
      rw [HE.out]
      exact ⟨_, rfl, row_low HO.out HRB.out, HB0.out _ (HP.out.below.trans below_drewN)⟩
    · have hem : (sb l).toList.isEmpty = false := isEmpty_false _ (by rw [sb_size]; have := List.length_pos_iff.2 h0; omega)
      have hnx := next_c m (HM.out wr HP.out.below) hg hp hcl h0 (by have := HP.out.le; omega) (by have := HP.out.out; have := HP.out.le; omega) HP.out.rst.1 (by have := HP.out.rst.2; omega)
      have HH := Lib.hid h0
      clear hp hcl h0
      cases hb : ((stepS l).2 ⟨o, rest, false⟩).bad with
      | true =>
        have HE : Hid (SS = ([], -1, false)) := by show SS = _; rw [HR.out]; exact HP.out.bad HH.out hb
        have hn2 : Calls Tryz.prog 14 #[ptr rb] wr fun e w' => e = .returned (.bool false) ∧ Below rb wr w' := hnx.mono fun e w' h => ⟨by have := h.2; rw [if_pos hb] at this; exact this, h.1⟩
        clear hnx hb
        generalize sb l = sl at *
        go_wp2_with (go_at_call 14; refine hn2.mono ?_; rintro e w1 ⟨rfl, hB1⟩; have HB1 := Lib.hid hB1; clear hB1 hn2)
        go_ret3
        rw [HE.out]
        exact ⟨_, rfl, World.ownsRow_nil _ _ _ _, HB0.out _ (HP.out.below.trans HB1.out)⟩
      | false =>
        have hn2 : Calls Tryz.prog 14 #[ptr rb] wr fun e w' => e = .returned (.bool true) ∧ Hid (Pd W rb L.length R (l.drop (stepS l).1) ((stepS l).2 ⟨o, rest, false⟩).out ((stepS l).2 ⟨o, rest, false⟩).rest w' ∧ leftOf w' rb < leftOf wr rb) := hnx.mono fun e w' h => by
          have h2 := h.2
          rw [if_neg (by rw [hb]; simp)] at h2
          exact ⟨h2.1, HP.out.step HH.out hb h.1 h2.2⟩
        clear hnx hb
        generalize sb l = sl at *
        go_wp2_with (go_at_call 14; refine hn2.mono ?_; rintro e w1 ⟨rfl, HX⟩; clear hn2)
        exact ⟨⟨_, _, _, HX.out.1⟩, HX.out.2⟩
theorem set_c (s : ByteArray) (w : World) (m : Int) (hm : w.cell? ⟨0, 0, none⟩ = some (.int .i64 m)) (hs : s.size ≤ 1048576) :
    Calls Tryz.prog 7 #[.string s] w fun e w' => ∃ v, e = .returned (.tuple #[v, .int .i64 (setS s.data.toList).2.1, .bool (setS s.data.toList).2.2]) ∧ ByAt w' v (setS s.data.toList).1 ∧ Below w.heap.size w w' :=
  (set_row s w m hm hs).mono fun _ _ ⟨v, h1, h2, h3⟩ => ⟨v, h1, row_by h2, h3⟩
end Go.Proofs.YtfkoehfkiommpaaGreatDoor.Tr

namespace Go.Proofs.YtfkoehfkiommpaaGreatDoor.Tr
open Go.Proofs.YtfkoehfkiommpaaGreatDoor.Op
open Go.RowKit

/-- A load of a whole array. -/
theorem wp_load_arr {P : Program} {o : Oper} {a : Act} {w : World} {K : Act → World → Prop} {Q : Exit → Act → World → Prop} (ty : TypeId) (x : Operand) (ho : o.op = .load ty x) (g : Nat) (cs : Array Value) (hx : a.eval x = .pointer (some ⟨g, 0, none⟩)) (t : TypeId) {fr : Nat × Nat} {d : TypeDesc}
    (hg : w.heap[g]? = some (.cells cs t fr)) (hu : P.underlying ty = some d) (ha : (match d with | .struct _ | .array _ _ => true | _ => false) = true) (hi : (P.info? ty).map (·.size) = some cs.size) (h : K (a.put o.dst (.agg cs)) w) : o.wp P a w K Q := by
  unfold Oper.wp execOp
  simp only [ho, hx, Instr.loadAt, Instr.sureAddr, Sem.run_bind, Sem.run_pure, Result.andThen_ok, run_loadVar_row w g t ty cs fr d hg hu ha hi]
  exact h
/-- A store of a whole array. -/
theorem store_arr {P : Program} {w : World} {g : Nat} {t : TypeId} {old cs : Array Value} (hg : w.heap[g]? = some (.cells old t (0, 0))) (ho : old.size = cs.size) (h1 : cs.all (·.oneCell') = true) : (storeCells ⟨g, 0, none⟩ cs.toList).run P w = .ok () (w.setRow g cs) := by
  have := run_storeCells_from (P := P) g t cs.toList 0 old w hg (by simp; omega) (fun v hv => (Array.all_eq_true_iff_forall_mem.1 h1) v (by simpa using hv))
  simpa using this
/-- 256 yes or no. -/
def blA (f : Nat → Bool) : Array Value := ((List.range 256).map fun i => Value.bool (f i)).toArray
theorem blA_size (f : Nat → Bool) : (blA f).size = 256 := by simp [blA]
theorem blA_at (f : Nat → Bool) (i : Nat) (h : i < 256) : (blA f)[i]? = some (.bool (f i)) := by simp [blA, h]
theorem blA_one (f : Nat → Bool) : (blA f).all (·.oneCell') = true := by
  rw [Array.all_eq_true_iff_forall_mem]
  intro v hv
  simp [blA] at hv
  obtain ⟨i, _, rfl⟩ := hv
  rfl
theorem blA_eq {f g : Nat → Bool} (h : ∀ i, i < 256 → f i = g i) : blA f = blA g := by
  unfold blA
  congr 1
  apply List.map_congr_left
  intro i hi
  rw [h i (by simpa using hi)]
theorem blA_set (f : Nat → Bool) (c : Nat) (b : Bool) : (blA f).setIfInBounds c (.bool b) = blA fun i => if i = c then b else f i := by
  apply Array.ext_getElem?
  intro i
  rw [Array.getElem?_setIfInBounds]
  by_cases hi : i < 256
  · by_cases hc : c = i
    · subst hc
      rw [if_pos rfl, blA_size, if_pos hi, blA_at _ c hi, if_pos rfl]
    · rw [if_neg hc, blA_at _ i hi, blA_at _ i hi, if_neg (fun e => hc e.symm)]
  · have h2 : ∀ f, (blA f)[i]? = none := fun f => Array.getElem?_eq_none (by rw [blA_size]; omega)
    rw [h2, h2, blA_size]
    split
    · split
      · omega
      · rfl
    · rfl
theorem blA_zero : Tryz.zeroCells293 = blA fun _ => false := by kernel_rfl
theorem infoBl : (Tryz.prog.info? 293).map (·.size) = some 256 := by kernel_rfl
abbrev BlAt (w : World) (b : Nat) (f : Nat → Bool) : Prop := w.heap[b]? = some (.cells (blA f) 293)
theorem bl_eq {w : World} {b : Nat} {f g : Nat → Bool} (h : BlAt w b f) (e : ∀ i, i < 256 → f i = g i) : BlAt w b g := by
  have := blA_eq e
  show _ = some (Obj.cells (blA g) 293)
  rw [← this]
  exact h
theorem bl_new (w : World) : BlAt (w.alloc (.cells Tryz.zeroCells293 293)) w.heap.size (fun _ => false) := by
  show _ = some (Obj.cells (blA fun _ => false) 293)
  rw [← blA_zero]
  exact heap_alloc_last w _
theorem bl_al {w : World} {b : Nat} {f : Nat → Bool} (h : BlAt w b f) (o : Obj) : BlAt (w.alloc o) b f := (heap_alloc_old w o (h_lt h)).trans h
theorem bl_set {w : World} {b : Nat} {f : Nat → Bool} (h : BlAt w b f) (c : Nat) (x : Bool) : BlAt (w.setCell ⟨b, c, none⟩ (.bool x)) b (fun i => if i = c then x else f i) := by
  have := h_set h c (.bool x)
  rw [blA_set] at this
  exact this
theorem bl_other {w : World} {b b2 : Nat} {f : Nat → Bool} (h : BlAt w b f) (hne : b ≠ b2) (c : Nat) (v : Value) : BlAt (w.setCell ⟨b2, c, none⟩ v) b f := by
  show _ = _
  rw [Below.heap_setCell _ _ _ _ (by simpa using hne)]
  exact h
/-- The bytes of a set. -/
def inB (l : List UInt8) (i : Nat) : Bool := l.contains (UInt8.ofNat i)
theorem inB_snoc (l : List UInt8) (k : Nat) (h : k < l.length) (i : Nat) (hi : i < 256) : (if i = l[k].toNat then true else inB (l.take k) i) = inB (l.take (k + 1)) i := by
  have e2 : inB (l.take (k + 1)) i = (inB (l.take k) i || (UInt8.ofNat i == l[k])) := by
    unfold inB
    rw [List.take_succ_eq_append_getElem h, List.contains_append]
    simp only [List.contains_cons, List.contains_nil, Bool.or_false]
  rw [e2]
  by_cases e : i = l[k].toNat
  · subst e
    simp
  · rw [if_neg e]
    have hne : (UInt8.ofNat i == l[k]) = false := by
      rw [beq_eq_false_iff_ne]
      exact fun h => e (by rw [← h]; simp; omega)
    rw [hne, Bool.or_false]
set_option maxRecDepth 100000 in
set_option maxHeartbeats 2000000 in
theorem memb_c (v : Value) (l : List UInt8) (w : World) (hv : ByAt w v l) (hl : l.length ≤ 1099511627776) :
    Calls Tryz.prog 182 #[v] w fun e w' => e = .returned (.agg (blA (inB l))) ∧ Below w.heap.size w w' := by
  obtain ⟨va, vc, rfl⟩ := hv.shape
  have HV := Lib.hid hv
  clear hv
  go_enter Tryz.func182, Tryz.ntmps182
  go_wp2_with fail
  have hB0 : Below w.heap.size w ((w.alloc (.cells Tryz.zeroCells293 293)).alloc (.cells Tryz.zeroCells293 293)) := ((Below.refl _ w).alloc (Nat.le_refl _) _).alloc (by simp) _
  have hb2 : BlAt ((w.alloc (.cells Tryz.zeroCells293 293)).alloc (.cells Tryz.zeroCells293 293)) w.heap.size (fun _ => false) := bl_al (bl_new w) _
  have hb3 : BlAt ((w.alloc (.cells Tryz.zeroCells293 293)).alloc (.cells Tryz.zeroCells293 293)) (w.heap.size + 1) (inB (l.take 0)) := by
    have := bl_new (w.alloc (.cells Tryz.zeroCells293 293))
    rw [show (w.alloc (.cells Tryz.zeroCells293 293)).heap.size = w.heap.size + 1 by simp] at this
    exact bl_eq this (fun i _ => by simp [inB])
  have HI : Hid (_ ∧ _ ∧ _) := ⟨hB0, hb2, hb3⟩
  clear hB0 hb2 hb3
  generalize (w.alloc (.cells Tryz.zeroCells293 293)).alloc (.cells Tryz.zeroCells293 293) = W at HI ⊢
  go_loopw [8] (fun i wr => ∃ k : Nat, k ≤ l.length ∧ i = .int .i64 k ∧ Hid (Below w.heap.size w wr ∧ BlAt wr w.heap.size (fun _ => false) ∧ BlAt wr (w.heap.size + 1) (inB (l.take k)))) (fun i _ => l.length - (intOf i).toNat)
  case atStart => exact ⟨0, by omega, rfl, HI⟩
  case round =>
    obtain ⟨k, hk, rfl, HR⟩ := hrel
    clear HI
    by_cases hlt : k < l.length
    · have n1 : (k : Int) < (l.length : Int) := by omega
      have hvv := HV.out
      rcases hvv with ⟨_, h0⟩ | ⟨vb, off, cap, hvs, hcap, hvb, hvc⟩
      · rw [h0] at hlt; simp at hlt
      · have hva : va = some ⟨vb, off, none⟩ ∧ vc = cap := by simpa using hvs
        obtain ⟨rfl, rfl⟩ := hva
        have c1 : wr.cell? ⟨vb, off + k, none⟩ = some (.int .u8 (l[k].toNat : Int)) := by
          rw [HR.out.1.cell (p := ⟨vb, off + k, none⟩) hvb, hvc k hlt]
          simp [hlt]
        have hc8 := l[k].toNat_lt
        have c3 : wr.cell? ⟨w.heap.size + 1, l[k].toNat, none⟩ = some (.bool (inB (l.take k) l[k].toNat)) := h_cell HR.out.2.2 _ (blA_at _ _ hc8)
        have z3 := h_fz HR.out.2.2 l[k].toNat
        have HN : Hid (Below w.heap.size w (wr.setCell ⟨w.heap.size + 1, l[k].toNat, none⟩ (.bool true)) ∧ BlAt (wr.setCell ⟨w.heap.size + 1, l[k].toNat, none⟩ (.bool true)) w.heap.size (fun _ => false) ∧ BlAt (wr.setCell ⟨w.heap.size + 1, l[k].toNat, none⟩ (.bool true)) (w.heap.size + 1) (inB (l.take (k + 1)))) := by
          refine ⟨HR.out.1.setCell (p := ⟨w.heap.size + 1, l[k].toNat, none⟩) (by show w.heap.size ≤ w.heap.size + 1; omega) _, ?_, ?_⟩
          · exact bl_other HR.out.2.1 (by omega) _ _
          · exact bl_eq (bl_set HR.out.2.2 _ _) (fun i hi => inB_snoc l k hlt i hi)
        generalize l[k].toNat = cn at *
        clear hvc HR hvs
        go_wp2_with fail
        exact ⟨⟨k + 1, by omega, by go_num, HN⟩, by simp [intOf]; omega⟩
    · obtain rfl : k = l.length := by omega
      rw [List.take_length] at HR
      have hn1 : ¬ ((l.length : Int) < (l.length : Int)) := by omega
      go_wp2_with fail
      refine wp_load_arr 293 (.tmp 3) rfl (w.heap.size + 1) (blA (inB l)) rfl 293 HR.out.2.2 Tryz.underlying293 rfl (by rw [blA_size]; exact infoBl) ?_
      have hsc := store_arr (P := Tryz.prog) (cs := blA (inB l)) HR.out.2.1 (by rw [blA_size, blA_size]) (blA_one _)
      have hsz := blA_size (inB l)
      go_wp2_with fail
      refine bodyPost_ret (results_cell_row rfl _ _ w.heap.size 293 (blA (inB l)) (0, 0) _ rfl (setRow_heap _ _ _ _ _ _ HR.out.2.1) Tryz.underlying293 rfl (by rw [blA_size]; exact infoBl)) rfl ?_
      exact ⟨rfl, below_setRow HR.out.1 (Nat.le_refl _) _⟩
end Go.Proofs.YtfkoehfkiommpaaGreatDoor.Tr

namespace Go.Proofs.YtfkoehfkiommpaaGreatDoor.Tr
open Go.Proofs.YtfkoehfkiommpaaGreatDoor.Op
open Go.RowKit

set_option maxRecDepth 100000 in
set_option maxHeartbeats 2000000 in
theorem others1_c (B : Nat) (f : Nat → Bool) (w : World) (hb : BlAt w B f) : Kind 235 #[ptr B] (fun c => !f c) w := by
  intro c hc
  have c1 : w.cell? ⟨B, c, none⟩ = some (.bool (f c)) := h_cell hb c (blA_at f c hc)
  simp only [List.append_toArray, List.cons_append, List.nil_append]
  generalize f c = x at *
  have i1 : (c : Int) < 256 := by omega
  clear hb
  go_enter Tryz.func235, Tryz.ntmps235
  go_wp2
  go_ret
  exact ⟨rfl, rfl⟩
set_option maxRecDepth 100000 in
set_option maxHeartbeats 2000000 in
theorem others_c (v : Value) (l : List UInt8) (w : World) (hv : ByAt w v l) (hl : l.length ≤ 1099511627776) :
    Calls Tryz.prog 215 #[v] w fun e w' => ∃ v2, e = .returned v2 ∧ Row w' w.heap.size v2 (othersS l) ∧ Below w.heap.size w w' := by
  have hmf : ∀ (fn : Fn) (first cap : Array Value) (w : World), (Instr.makeFunc fn first cap).run Tryz.prog w = .ok (.func fn first cap) w := fun _ _ _ _ => rfl
  have hm := memb_c v l w hv hl
  obtain ⟨va, vc, rfl⟩ := hv.shape
  have hsz := blA_size (inB l)
  have HO : Hid (othersS l = bytesOf (fun c => !inB l c) 256) := rfl
  clear hv
  generalize inB l = f at *
  go_enter Tryz.func215, Tryz.ntmps215
  go_wp2_with (first
    | (go_at_call 182; refine hm.mono ?_; rintro e w1 ⟨rfl, hB1⟩; have hst := run_storeCells_new (P := Tryz.prog) w1 293 Tryz.zeroCells293 (blA f) (by rw [blA_size]; exact infoBl) (by rw [blA_zero, blA_size, blA_size]) (blA_one f); have hb1 : BlAt (w1.alloc (.cells (blA f) 293)) w1.heap.size f := heap_alloc_last _ _; have hby := bytesOf_c 235 #[ptr w1.heap.size] (fun c => !f c) (w1.alloc (.cells (blA f) 293)) (fun _ _ => by kernel_rfl) (fun W hW => others1_c w1.heap.size f W ((hW.block w1.heap.size (by simp)).trans hb1)); have HB1 := Lib.hid hB1; clear hB1 hm hb1)
    | (go_at_call 47; refine hby.mono ?_; rintro e w2 ⟨v2, rfl, hr2, hB2⟩; have HR2 := Lib.hid (And.intro hr2 hB2); clear hr2 hB2 hby))
  go_ret
  refine ⟨v2, rfl, ?_, (HB1.out.alloc HB1.out.size _).trans (HR2.out.2.mono (by have := HB1.out.size; simp; omega))⟩
  rw [HO.out]
  exact row_low HR2.out.1 (by have := HB1.out.size; simp; omega)
end Go.Proofs.YtfkoehfkiommpaaGreatDoor.Tr
