/- What the listed package variables hold, cell by cell, and that it stays while nothing below turns. -/
import Derived.Test.YtcpclpckjheadaaDoorRows
import Derived.Lib.LaidTab
import Derived.LaidSub
import Derived.Lib.ItoaNum
import Derived.WalkSmall
namespace Go.Proofs.YtcpclpckjheadaaDoor
open Go.RowKit

/-- The words of a listed table. -/
def strsOf : DataW Unit → List (List UInt8)
  | .agg l => l.map fun | .lit (.string b) => b | _ => []
  | _ => []
def wds : List (List UInt8) := strsOf Rows.laid_toolchest_text_words
/-- The word of a number, 0 to 26. -/
def wdB (i : Nat) : ByteArray := ⟨(wds.getD i []).toArray⟩

theorem wds_text : (Rows.laid_toolchest_text_words : DataW Unit) = .agg (wds.map fun s => .lit (.string s)) := by kernel_rfl
theorem wds_ref : (Rows.laid_toolchest_toolchestref01_words : DataW Unit) = .agg (wds.map fun s => .lit (.string s)) := by kernel_rfl
theorem wds_length : wds.length = 27 := by kernel_rfl
theorem wds_short : ∀ s ∈ wds, s.length ≤ 32 := by decide +kernel
theorem wdB_size (i : Nat) : (wdB i).size ≤ 32 := by
  show (wds.getD i []).length ≤ 32
  by_cases h : i < wds.length
  · have e : wds.getD i [] = wds[i] := by simp [List.getD, h]
    rw [e]; exact wds_short _ (List.getElem_mem h)
  · have e : wds.getD i [] = [] := by rw [List.getD, List.getElem?_eq_none (by omega)]; rfl
    rw [e]; simp

theorem mem_pairs {A : Type} {xs : List (DataW Unit × A)} {ss : List (List UInt8)} (h : xs.map (·.1) = ss.map fun s => (DataW.lit (.string s) : DataW Unit)) (i : Nat) (b : DataW Unit × A) (hb : xs[i]? = some b) : ∃ s, ss[i]? = some s ∧ b.1 = .lit (.string s) := by
  have h2 : (xs.map (·.1))[i]? = some b.1 := by simp [hb]
  rw [h, List.getElem?_map] at h2
  obtain ⟨s, hs, e⟩ := Option.map_eq_some_iff.1 h2
  exact ⟨s, hs, e.symm⟩

/-- An array of strings that reads as a table holds the table's strings, cell for cell. -/
theorem cells_of_strs {enc : TypeId × Value → Unit} {P : Program} {w : World} {base : Nat} {sp : Nat → Bool} {held : Bool} {fuel : Nat} {t e : TypeId} {n : Nat} {cs : List Value} {ss : List (List UInt8)} {p : List MemPlace}
    (ht : P.underlying t = some (.array n e)) (he : P.underlying e = some .string) (hce : P.cellsOf e = 1) (hct : P.cellsOf t = n)
    (h : DataW.trod enc P w base sp held fuel t cs = some (.agg (ss.map fun s => .lit (.string s)), p)) : cs = ss.map fun s => Value.string ⟨s.toArray⟩ := by
  cases fuel with
  | zero => simp [DataW.trod] at h
  | succ fuel =>
    simp only [DataW.trod, ht, hce, hct, Nat.mul_one] at h
    split at h
    · rename_i hl
      obtain ⟨xs, hm, hx⟩ := Option.map_eq_some_iff.1 h
      have hxs : xs.map (·.1) = ss.map fun s => (DataW.lit (.string s) : DataW Unit) := by
        have := congrArg Prod.fst hx
        simpa using this
      have hxl : xs.length = n := by simpa using Lib.mapM_length hm
      have hzl : ss.length = n := by
        have := congrArg List.length hxs
        simp at this
        omega
      apply List.ext_getElem?
      intro i
      by_cases hi : i < n
      · obtain ⟨b, hb, hf⟩ := Lib.mapM_at hm i i (by simp [hi])
        obtain ⟨s, hc, hbs, _⟩ := DataW.trod_string he hf
        have h1 : cs[i]? = some (.string s) := by
          have := congrArg (·[0]?) hc
          simpa [List.getElem?_take, List.getElem?_drop] using this
        obtain ⟨s', hs', e'⟩ := mem_pairs hxs i b hb
        rw [hbs] at e'
        have e2 : s.data.toList = s' := by simpa using e'
        rw [h1, List.getElem?_map, hs', ← e2]
        simp
      · rw [List.getElem?_eq_none (by omega), List.getElem?_eq_none (by simp; omega)]
    · cases h

theorem strs_of_head {P : Program} {W : World} {name : String} {ss : List (List UInt8)} {rest : List (String × DataW Unit)} {g : Nat} {t e : TypeId} {n : Nat}
    (hg : P.globalNamed name = some g) (hty : (P.globals[g]?).map (·.type) = some t) (ht : P.underlying t = some (.array n e)) (he : P.underlying e = some .string) (hce : P.cellsOf e = 1) (hct : P.cellsOf t = n)
    (h : laidMet P ((name, .agg (ss.map fun s => .lit (.string s))) :: rest) W) : W.var? P name = some (ss.map fun s => Value.string ⟨s.toArray⟩).toArray := by
  obtain ⟨ps, ⟨g', t', cs, fuel, p, q, hg', ht', hvar, hd, _, _⟩, _⟩ := h
  obtain rfl := Option.some.inj (hg.symm.trans hg')
  obtain rfl := Option.some.inj (hty.symm.trans ht')
  rw [hvar, ← cells_of_strs ht he hce hct hd]

/-- What a walk reads of the listed variables. -/
structure Laid (W : World) : Prop where
  size : 5 ≤ W.heap.size
  t7 : W.cell? ⟨4, 7, none⟩ = some (.int .u8 3)
  t15 : W.cell? ⟨4, 15, none⟩ = some (.int .u8 4)
  p10 : Lib.TabIs Tryd.prog W "internal/strconv.uint64pow10" .u64 Lib.pow10Tab
  wd : ∀ i, i < 27 → W.cell? ⟨0, i, none⟩ = some (.string (wdB i))

theorem gPow : Tryd.prog.globalNamed "internal/strconv.uint64pow10" = some 2 := by kernel_rfl
theorem g64 : Tryd.prog.globalNamed "math/bits.deBruijn64tab" = some 4 := by kernel_rfl
theorem gWds : Tryd.prog.globalNamed "toolchest/text.words" = some 0 := by kernel_rfl
theorem gRef : Tryd.prog.globalNamed "toolchest/toolchestref01.words" = some 1 := by kernel_rfl

theorem Laid.below {n : Nat} {W W' : World} (h : Laid W) (hb : Below n W W') (hn : 5 ≤ n) : Laid W' :=
  ⟨Nat.le_trans h.size hb.size, (hb.cell (p := ⟨4, 7, none⟩) (show 4 < n by omega)).trans h.t7, (hb.cell (p := ⟨4, 15, none⟩) (show 4 < n by omega)).trans h.t15,
    var?_below hb gPow (by omega) h.p10, fun i hi => (hb.cell (p := ⟨0, i, none⟩) (show 0 < n by omega)).trans (h.wd i hi)⟩

theorem lt_of_cell {W : World} {a : Addr} {v : Value} (h : W.cell? a = some v) : a.block < W.heap.size := by
  rcases Nat.lt_or_ge a.block W.heap.size with h' | h'
  · exact h'
  · simp [World.cell?, Array.getElem?_eq_none h'] at h

theorem wds_cells {W : World} {name : String} {g : Nat} (hg : Tryd.prog.globalNamed name = some g) (h : W.var? Tryd.prog name = some (wds.map fun s => Value.string ⟨s.toArray⟩).toArray) : ∀ i, i < 27 → W.cell? ⟨g, i, none⟩ = some (.string (wdB i)) := by
  intro i hi
  have := World.var?_cell hg h i
  rw [this]
  have hl : i < wds.length := by rw [wds_length]; exact hi
  simp [wdB, List.getD, hl]

/-- From the four listed variables. -/
theorem laid_of {W : World} {l : List (String × DataW Unit)} (h : laidMet Tryd.prog l W)
    (h64 : l.filter (fun x => x.1 == "math/bits.deBruijn64tab") = [("math/bits.deBruijn64tab", Rows.laid_math_bits_deBruijn64tab)])
    (hp : l.filter (fun x => x.1 == "internal/strconv.uint64pow10") = [("internal/strconv.uint64pow10", Rows.laid_internal_strconv_uint64pow10)])
    (hw : l.filter (fun x => x.1 == "toolchest/text.words") = [("toolchest/text.words", Rows.laid_toolchest_text_words)]) : Laid W := by
  have a1 := h.filter (fun x => x.1 == "math/bits.deBruijn64tab")
  rw [h64] at a1
  have a2 := h.filter (fun x => x.1 == "internal/strconv.uint64pow10")
  rw [hp] at a2
  have a3 := h.filter (fun x => x.1 == "toolchest/text.words")
  rw [hw, wds_text] at a3
  have b1 : Lib.TabIs Tryd.prog W "math/bits.deBruijn64tab" .u8 [0, 1, 56, 2, 57, 49, 28, 3, 61, 58, 42, 50, 38, 29, 17, 4, 62, 47, 59, 36, 45, 43, 51, 22, 53, 39, 33, 30, 24, 18, 12, 5, 63, 55, 48, 27, 60, 41, 37, 16, 46, 35, 44, 21, 52, 32, 23, 11, 54, 26, 40, 15, 34, 20, 31, 10, 25, 14, 19, 9, 13, 8, 7, 6] :=
    Lib.tabIs_of_head (rest := []) g64 (by kernel_rfl) Tryd.underlying63 Tryd.underlying5 (by kernel_rfl) (by kernel_rfl) a1
  have b2 : Lib.TabIs Tryd.prog W "internal/strconv.uint64pow10" .u64 Lib.pow10Tab :=
    Lib.tabIs_of_head (rest := []) gPow (by kernel_rfl) Tryd.underlying55 Tryd.underlying48 (by kernel_rfl) (by kernel_rfl) a2
  have b3 := strs_of_head (rest := []) gWds (t := 44) (e := 9) (by kernel_rfl) Tryd.underlying44 Tryd.underlying9 (by kernel_rfl) (by kernel_rfl) a3
  have c7 : W.cell? ⟨4, 7, none⟩ = some (.int .u8 3) := b1.cell g64 7 (by decide)
  exact ⟨lt_of_cell c7, c7, b1.cell g64 15 (by decide), b2, wds_cells gWds b3⟩

theorem refs_of {W : World} {l : List (String × DataW Unit)} (h : laidMet Tryd.prog l W)
    (hw : l.filter (fun x => x.1 == "toolchest/toolchestref01.words") = [("toolchest/toolchestref01.words", Rows.laid_toolchest_toolchestref01_words)]) : ∀ i, i < 27 → W.cell? ⟨1, i, none⟩ = some (.string (wdB i)) := by
  have a3 := h.filter (fun x => x.1 == "toolchest/toolchestref01.words")
  rw [hw, wds_ref] at a3
  exact wds_cells gRef (strs_of_head (rest := []) gRef (t := 44) (e := 9) (by kernel_rfl) Tryd.underlying44 Tryd.underlying9 (by kernel_rfl) (by kernel_rfl) a3)
end Go.Proofs.YtcpclpckjheadaaDoor
