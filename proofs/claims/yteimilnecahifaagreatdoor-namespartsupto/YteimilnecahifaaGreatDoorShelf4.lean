/- The table of cases, laid: it is read by a law, not by the kernel's run. -/
import Derived.Test.YteimilnecahifaaGreatDoorRows
import Derived.ProofKit
import Derived.Lib.LaidCaseMet
import Derived.OpenShut
import Derived.JoinedCond
import Derived.Deep.Strs
import Derived.Deep.DeepHandedRow
import Derived.Lib.LaidTab
import Derived.LaidSub
import Derived.Shelf.Vars
import Derived.Test.YteimilnecahifaaGreatDoorNRef2
import Derived.Deep.DeepWitnessRowRef
import Derived.Test.YteimilnecahifaaGreatDoorShelf3
import Derived.Shelf.Strings.Builder1
import Derived.Shelf.Strings.Builder2
import Derived.Shelf.Strings.OnBuilder
import Derived.Shelf.Strings.Trim
import Derived.Shelf.Small.Utf8
import Derived.Shelf.Small.Strs
import Derived.Shelf.Small.Wraps
import Derived.Shelf.Strings.BuilderF
import Derived.Shelf.Strings.Builder2Cap
import Derived.Shelf.Strconv.Itoa0
import Derived.Shelf.Strconv.Itoa1
import Derived.Shelf.LaysM
import Derived.Shelf.Strconv.Itoa2
import Derived.Shelf.Strconv.Itoa3
import Derived.Shelf.Strconv.Itoa4
import Derived.Shelf.Strconv.Clone
import Derived.Shelf.Strconv.SyntaxError
import Derived.Shelf.Strings.Search1
import Derived.Shelf.Strings.Search2
import Derived.Shelf.Strings.Search3
import Derived.Shelf.Strings.Cut
import Derived.Shelf.Strings.Count
import Derived.Shelf.Strings.Shaped
import Derived.Shelf.Strings.LastIndex
import Derived.Shelf.Strings.Prefix
import Derived.Shelf.Unicode.Latin
import Derived.Shelf.Strings.Runes
import Derived.Shelf.Strings.IndexAny
import Derived.Shelf.Strings.AsciiSet
import Derived.Shelf.Strings.IndexAnyAll
import Derived.Shelf.Bits.Mul64
import Derived.Shelf.Strings.Repeat
import Derived.Shelf.Unicode.DecodeSlow
import Derived.Shelf.Unicode.CaseLookup
import Derived.Shelf.Unicode.CaseConvert
import Derived.Shelf.Unicode.CaseTo
import Derived.Shelf.Unicode.CaseLaid
import Derived.Shelf.Slices.Clone
import Derived.Shelf.Bytes.SlClone
import Derived.Shelf.SlicesE.Clone
import Derived.Test.YteimilnecahifaaGreatDoorProg
namespace Go.Proofs.YteimilnecahifaaGreatDoor.Nm
open Go.Proofs.YteimilnecahifaaGreatDoor
open Go.Lib

theorem cc_u32 : Tryz.prog.cellsOf 61 = 1 := by kernel_rfl
theorem cc_i32 : Tryz.prog.cellsOf 21 = 1 := by kernel_rfl
theorem cc_d : Tryz.prog.cellsOf 368 = 3 := by kernel_rfl
theorem cc_row : Tryz.prog.cellsOf 370 = 5 := by kernel_rfl
theorem glob_case : Tryz.prog.globalNamed "unicode.CaseRanges" = some 7 := by kernel_rfl
theorem type_case : (Tryz.prog.globals[7]?).map (·.type) = some 337 := by kernel_rfl
/-- One row reads as its datum. -/
theorem row_read {w : World} (x : CaseRow) (hw : rowWf x = true) (fuel : Nat) :
    DataW.trod (fun _ => ()) Tryz.prog w 0 (fun _ => true) false (fuel + 3) 370 (cells5 x) = some (rowData x, []) := by
  simp only [rowWf, Bool.and_eq_true] at hw
  obtain ⟨⟨⟨⟨w0, w1⟩, w2⟩, w3⟩, w4⟩ := hw
  have r3 : List.range 3 = [0, 1, 2] := rfl
  simp [DataW.trod, Tryz.underlying370, Tryz.underlying61, Tryz.underlying21, Tryz.underlying368, cc_row, cc_u32, cc_i32, cc_d, cells5, rowData, w0, w1, w2, w3, w4, r3]
/-- A table of cases reads as its rows; its places are its cells. -/
theorem table_read {w : World} {R : Nat} {T : Array CaseRow} (hT : CaseTab R 0 T w) (hwf : ∀ i, i < T.size → rowWf (T.getD i (0, 0, 0, 0, 0)) = true) (hs : T.size ≤ maxLen) (fuel : Nat) :
    DataW.trod (fun _ => ()) Tryz.prog w 0 (fun _ => true) false (fuel + 4) 337 [.slice (some ⟨R, 0, none⟩) T.size T.size] =
      some (.slice ((List.range T.size).map fun i => rowData (T.getD i (0, 0, 0, 0, 0))) [], MemPlace.row ⟨R, 0, none⟩ (T.size * 5)) := by
  have helem : ∀ i ∈ List.range T.size, (w.cells? 0 ((⟨R, 0, none⟩ : Addr).add (i * 5)) 5).bind (DataW.trod (fun _ => ()) Tryz.prog w 0 (fun _ => true) false (fuel + 3) 370) = some ((fun i => ((rowData (T.getD i (0, 0, 0, 0, 0)) : DataW Unit), ([] : List MemPlace))) i) := by
    intro i hi
    have hi' := List.mem_range.1 hi
    rw [case_cells5 hT i hi']
    rw [Option.bind_some]
    exact row_read _ (hwf i hi') fuel
  show DataW.trod _ _ _ _ _ _ ((fuel + 3) + 1) _ _ = _
  unfold DataW.trod
  simp only [Tryz.underlying337, cc_row]
  rw [if_pos ⟨Nat.zero_le _, Nat.le_refl _, hs⟩, mapM_some _ _ _ helem]
  simp [Function.comp_def]
theorem vars_split {P : Program} {w : World} : ∀ {l l' : List (String × DataW Unit)} {ps : List MemPlace}, DataW.LaidVars P w (l ++ l') ps → ∃ p q, DataW.LaidVars P w l p ∧ DataW.LaidVars P w l' q ∧ ps = p ++ q
  | [], _, ps, h => ⟨[], ps, rfl, h, rfl⟩
  | (n, d) :: r, l', ps, h => by
    obtain ⟨g, t, cs, fuel, p, q, h1, h2, h3, h4, h5, rfl⟩ := h
    obtain ⟨p', q', k1, k2, rfl⟩ := vars_split h5
    exact ⟨_, q', ⟨g, t, cs, fuel, p, p', h1, h2, h3, h4, k1, rfl⟩, k2, by simp [List.append_assoc]⟩
/-- What is laid, with the table of cases at any place of the list. -/
theorem laid_midT {P : Program} {T : Array CaseRow} {g : Nat} {w : World} {l1 l2 : List (String × DataW Unit)} (fuel : Nat)
    (h : (DataW.laidRun P w fuel ((l1 ++ l2).map (·.1))).map (·.1) = some (l1 ++ l2))
    (hn : (DataW.laidRun P w fuel ((l1 ++ l2).map (·.1))).map (fun x => nodupB (x.2.map MemPlace.codeOf)) = some true)
    (hr : (DataW.laidRun P w fuel ((l1 ++ l2).map (·.1))).map (fun x => laidRowsB P w x.2) = some true)
    (R : Nat) (cb : Array Value) (t tc : TypeId) (hgR : g ≠ R)
    (hoff : (DataW.laidRun P w fuel ((l1 ++ l2).map (·.1))).map (fun x => x.2.all fun p => p.block != g && p.block != R) = some true)
    (hvar : w.heap[g]? = some (.cells #[.slice (some ⟨R, 0, none⟩) T.size T.size] tc (0, 0)))
    (hblk : w.heap[R]? = some (.cells cb t (0, 0))) (hT : CaseTab R 0 T w) {D : DataW Unit} (hone : DataW.LaidVars P w [("unicode.CaseRanges", D)] (MemPlace.row ⟨g, 0, none⟩ 1 ++ MemPlace.row ⟨R, 0, none⟩ (T.size * 5) ++ [])) :
    laidMet P (l1 ++ ("unicode.CaseRanges", D) :: l2) w := by
  cases hx : DataW.laidRun P w fuel ((l1 ++ l2).map (·.1)) with
  | none =>
    rw [hx] at h
    cases h
  | some x =>
    rw [hx] at h hn hr hoff
    simp only [Option.map_some, Option.some.injEq] at h hn hr hoff
    obtain ⟨x1, ps⟩ := x
    simp only at h hn hr hoff
    subst h
    obtain ⟨p1, p2, k1, k2, rfl⟩ := vars_split (DataW.LaidVars_of_laidRun hx)
    have hps := nodup_of_code hn
    rw [List.append_nil] at hone
    have hblocks : ∀ p ∈ p1 ++ p2, p.block ≠ g ∧ p.block ≠ R := fun p hp => by
      have := List.all_eq_true.1 hoff p hp
      simpa using this
    have hpc : (MemPlace.row ⟨g, 0, none⟩ 1 ++ MemPlace.row ⟨R, 0, none⟩ (T.size * 5)).Nodup := by
      refine List.nodup_append.2 ⟨row_nodup _ _, row_nodup _ _, ?_⟩
      intro a ha b hb e
      obtain ⟨i, _, rfl⟩ := MemPlace.mem_row.1 ha
      obtain ⟨j, _, rfl⟩ := MemPlace.mem_row.1 hb
      simp at e
      exact hgR e.1
    have hperm : (p1 ++ ((MemPlace.row ⟨g, 0, none⟩ 1 ++ MemPlace.row ⟨R, 0, none⟩ (T.size * 5)) ++ p2)).Perm ((p1 ++ p2) ++ (MemPlace.row ⟨g, 0, none⟩ 1 ++ MemPlace.row ⟨R, 0, none⟩ (T.size * 5))) := by
      rw [List.append_assoc p1 p2]
      exact List.Perm.append_left p1 List.perm_append_comm
    refine ⟨_, LaidVars_append k1 (l' := [("unicode.CaseRanges", D)] ++ l2) (LaidVars_append hone k2), ?_, fun b off hp => ?_⟩
    · refine hperm.nodup_iff.2 (List.nodup_append.2 ⟨hps, hpc, ?_⟩)
      intro a ha b hb e
      subst e
      obtain ⟨h1, h2⟩ := hblocks a ha
      rcases List.mem_append.1 hb with hb | hb
      · obtain ⟨i, _, rfl⟩ := MemPlace.mem_row.1 hb
        exact h1 rfl
      · obtain ⟨i, _, rfl⟩ := MemPlace.mem_row.1 hb
        exact h2 rfl
    · rcases List.mem_append.1 (hperm.mem_iff.1 hp) with hp | hp
      · have := List.all_eq_true.1 hr _ hp
        simp only [Bool.and_eq_true] at this
        obtain ⟨h1, h2⟩ := this
        refine ⟨?_, fun u v hc => ?_⟩
        · split at h1
          · rename_i c t' hh
            exact ⟨c, t', hh⟩
          · cases h1
        · rw [hc] at h2
          simp only at h2
          exact Value.okWide_of_okWideB h2
      · rcases List.mem_append.1 hp with hp | hp
        · obtain ⟨i, hi, e⟩ := MemPlace.mem_row.1 hp
          injection e with e1 e2
          subst e1 e2
          refine ⟨⟨_, _, hvar⟩, fun u v hc => ?_⟩
          obtain rfl : i = 0 := by omega
          rw [Lib.cell_of_heap hvar] at hc
          simp at hc
        · obtain ⟨i, hi, e⟩ := MemPlace.mem_row.1 hp
          injection e with e1 e2
          subst e1 e2
          refine ⟨⟨_, _, hblk⟩, fun u v hc => ?_⟩
          obtain ⟨c0, c1, c2, c3, c4⟩ := hT (i / 5) (by omega)
          have hi5 : 0 + i = 0 + i / 5 * 5 + i % 5 := by omega
          simp only at hc
          rw [hi5] at hc
          have hm : i % 5 < 5 := Nat.mod_lt _ (by omega)
          match hk : i % 5, hm with
          | 0, _ => rw [hk, Nat.add_zero, c0] at hc; cases hc
          | 1, _ => rw [hk, c1] at hc; cases hc
          | 2, _ => rw [hk, c2] at hc; cases hc
          | 3, _ => rw [hk, c3] at hc; cases hc
          | 4, _ => rw [hk, c4] at hc; cases hc
theorem laid_mid {w : World} {l1 l2 : List (String × DataW Unit)} (fuel : Nat)
    (h : (DataW.laidRun Tryz.prog w fuel ((l1 ++ l2).map (·.1))).map (·.1) = some (l1 ++ l2))
    (hn : (DataW.laidRun Tryz.prog w fuel ((l1 ++ l2).map (·.1))).map (fun x => nodupB (x.2.map MemPlace.codeOf)) = some true)
    (hr : (DataW.laidRun Tryz.prog w fuel ((l1 ++ l2).map (·.1))).map (fun x => laidRowsB Tryz.prog w x.2) = some true)
    (R : Nat) (t : TypeId) (hgR : 7 ≠ R)
    (hoff : (DataW.laidRun Tryz.prog w fuel ((l1 ++ l2).map (·.1))).map (fun x => x.2.all fun p => p.block != 7 && p.block != R) = some true)
    (hvar : w.heap[7]? = some (.cells #[.slice (some ⟨R, 0, none⟩) caseA.size caseA.size] 337 (0, 0)))
    (hblk : w.heap[R]? = some (.cells caseCells5 t (0, 0))) :
    laidMet Tryz.prog (l1 ++ ("unicode.CaseRanges", caseData) :: l2) w := by
  have hT := caseTab_of_block hblk
  have hv : w.var? Tryz.prog "unicode.CaseRanges" = some #[.slice (some ⟨R, 0, none⟩) caseA.size caseA.size] := by simp only [World.var?, glob_case, hvar, Option.bind_some]
  have hs : caseA.size ≤ maxLen := by rw [caseA_size]; unfold maxLen; omega
  have hread := table_read hT caseA_wf hs 0
  rw [case_rows_data] at hread
  exact laid_midT fuel h hn hr R caseCells5 t _ hgR hoff hvar hblk hT ⟨7, 337, _, _, _, [], glob_case, type_case, hv, hread, rfl, rfl⟩
set_option maxRecDepth 100000 in
theorem case_eq : Rows.laid_unicode_CaseRanges = caseData := by kernel_rfl
end Go.Proofs.YteimilnecahifaaGreatDoor.Nm

namespace Go.Proofs.YteimilnecahifaaGreatDoor.Nm
open Go.Proofs.YteimilnecahifaaGreatDoor Go.Proofs.YteimilnecahifaaGreatDoor.Op
open Go.ChangeShapes Go.WideShapes Go.ChangeAt Go.RowKit
open Go.WideMaps Go.WideElems

theorem own : ownKnob Tryz.prog.godebug = none := by kernel_rfl
theorem laidOut : laidOutB Tryz.prog = true := by kernel_rfl
theorem cellsStr : Tryz.prog.cellsOf 9 = 1 := by kernel_rfl
def cellOf : DataW Unit → Value
  | .lit (.int k z) => .int k z
  | .lit (.string l) => .string ⟨l.toArray⟩
  | _ => undef
def cellsOfData : DataW Unit → Array Value
  | .agg l => (l.flatMap fun | .agg l2 => l2.map cellOf | d => [cellOf d]).toArray
  | _ => #[]
def layCells (d : DataW Unit) : Obj → Obj
  | .cells _ t frozen => .cells (cellsOfData d) t frozen
  | o => o
def putCells (cs : Array Value) : Obj → Obj
  | .cells _ t frozen => .cells cs t frozen
  | o => o
/-- The tables laid, the errors and the table of cases behind them, at N. -/
def layAll (N : Nat) (w : World) : World :=
  { w with heap := (((((((((w.heap.modify 2 (layCells Rows.laid_unicode_utf8_first)).modify 3 (layCells Rows.laid_unicode_utf8_acceptRanges)).modify 6 (layCells Rows.laid_toolchest_text_words)).modify 4 (layCells Rows.laid_math_bits_deBruijn32tab)).modify 5 (layCells Rows.laid_math_bits_deBruijn64tab)).modify 1 (layCells Rows.laid_internal_strconv_uint64pow10))).modify 9 (putCells #[.iface 371 (.pointer (some ⟨N, 0, none⟩))])).modify 8 (putCells #[.iface 371 (.pointer (some ⟨N + 1, 0, none⟩))])).modify 7 (putCells #[.slice (some ⟨N + 2, 0, none⟩) 336 336]) }
/-- What lies behind the variables: the errors' texts, the table of cases. -/
def newB : Array Obj := #[.cells #[.string ⟨#[118, 97, 108, 117, 101, 32, 111, 117, 116, 32, 111, 102, 32, 114, 97, 110, 103, 101]⟩] 373, .cells #[.string ⟨#[105, 110, 118, 97, 108, 105, 100, 32, 115, 121, 110, 116, 97, 120]⟩] 373, .cells Lib.caseCells5 370]
def lA : List (String × DataW Unit) := [("math/bits.deBruijn32tab", Rows.laid_math_bits_deBruijn32tab), ("math/bits.deBruijn64tab", Rows.laid_math_bits_deBruijn64tab), ("internal/strconv.uint64pow10", Rows.laid_internal_strconv_uint64pow10), ("unicode/utf8.acceptRanges", Rows.laid_unicode_utf8_acceptRanges), ("strconv.ErrRange", Rows.laid_strconv_ErrRange), ("strconv.ErrSyntax", Rows.laid_strconv_ErrSyntax), ("toolchest/text.words", Rows.laid_toolchest_text_words)]
def lB : List (String × DataW Unit) := [("unicode/utf8.first", Rows.laid_unicode_utf8_first)]
theorem laid_met (os : Os) (args : Array Value) : laidMet Tryz.prog (lA ++ ("unicode.CaseRanges", Rows.laid_unicode_CaseRanges) :: lB) ((layAll (World.settled Tryz.prog os).heap.size (World.holding Tryz.prog os ⟨newB, #[], []⟩)).forCall (fun _ _ => 0) ⟨#[], args, []⟩).memory := by
  rw [case_eq]
  exact laid_mid 8 (by kernel_rfl) (by kernel_rfl) (by kernel_rfl) ((World.settled Tryz.prog default).heap.size + 2) 370 (of_decide_eq_true (by kernel_rfl)) (by kernel_rfl) (by kernel_rfl) (by kernel_rfl)
theorem maxlen (W : World) (h : W.ShapedOpen Tryz.prog) : ∃ m, W.cell? ⟨0, 0, none⟩ = some (.int .i64 m) :=
  Go.Proofs.cell_of_shapedOpen_int (zero := #[.int .i64 0]) (t := 3) h (of_decide_eq_true (by kernel_rfl)) (by kernel_rfl) rfl (by kernel_rfl) (by kernel_rfl) Tryz.underlying3
/-- The words of a listed table. -/
def strsOf : DataW Unit → List (List UInt8)
  | .agg l => l.map fun | .lit (.string b) => b | _ => []
  | _ => []
def wds : List (List UInt8) := strsOf Rows.laid_toolchest_text_words
theorem wds_text : (Rows.laid_toolchest_text_words : DataW Unit) = .agg (wds.map fun s => .lit (.string s)) := by kernel_rfl
theorem wds_length : wds.length = 27 := by kernel_rfl
theorem wds_25 : wds.getD 25 [] = [110, 111, 116, 32, 97, 32, 110, 117, 109, 98, 101, 114] := by kernel_rfl
theorem mem_pairs {A : Type} {xs : List (DataW Unit × A)} {ss : List (List UInt8)} (h : xs.map (·.1) = ss.map fun s => (DataW.lit (.string s) : DataW Unit)) (i : Nat) (b : DataW Unit × A) (hb : xs[i]? = some b) : ∃ s, ss[i]? = some s ∧ b.1 = .lit (.string s) := by
  have h2 : (xs.map (·.1))[i]? = some b.1 := by simp [hb]
  rw [h, List.getElem?_map] at h2
  obtain ⟨s, hs, e⟩ := Option.map_eq_some_iff.1 h2
  exact ⟨s, hs, e.symm⟩
/-- An array of strings that reads as a table holds the table's strings, cell for cell. -/
theorem cells_of_strs {enc : TypeId × Value → Unit} {P : Program} {w : World} {base : Nat} {sp : Nat → Bool} {held : Bool} {fuel : Nat} {t e : TypeId} {n : Nat} {cs : List Value} {ss : List (List UInt8)} {p : List MemPlace}
    (ht : P.underlying t = some (.array n e)) (he : P.underlying e = some .string) (hce : P.cellsOf e = 1) (hct : P.cellsOf t = n)
    (h : DataW.trod enc P w base sp held fuel t cs = some (.agg (ss.map fun s => .lit (.string s)), p)) : cs = ss.map fun s => Value.string ⟨s.toArray⟩ := by
  cases fuel with
  | zero => simp [DataW.trod] at h
  | succ fuel =>
    simp only [DataW.trod, ht, hce, hct, Nat.mul_one] at h
    split at h
    · rename_i hl
      obtain ⟨xs, hm, hx⟩ := Option.map_eq_some_iff.1 h
      have hxs : xs.map (·.1) = ss.map fun s => (DataW.lit (.string s) : DataW Unit) := by
        have := congrArg Prod.fst hx
        simpa using this
      have hxl : xs.length = n := by simpa using Lib.mapM_length hm
      have hzl : ss.length = n := by
        have := congrArg List.length hxs
        simp at this
        omega
      apply List.ext_getElem?
      intro i
      by_cases hi : i < n
      · obtain ⟨b, hb, hf⟩ := Lib.mapM_at hm i i (by simp [hi])
        obtain ⟨s, hc, hbs, _⟩ := DataW.trod_string he hf
        have h1 : cs[i]? = some (.string s) := by
          have := congrArg (·[0]?) hc
          simpa [List.getElem?_take, List.getElem?_drop] using this
        obtain ⟨s', hs', e'⟩ := mem_pairs hxs i b hb
        rw [hbs] at e'
        have e2 : s.data.toList = s' := by simpa using e'
        rw [h1, List.getElem?_map, hs', ← e2]
        simp
      · rw [List.getElem?_eq_none (by omega), List.getElem?_eq_none (by simp; omega)]
    · cases h

theorem strs_of_head {P : Program} {W : World} {name : String} {ss : List (List UInt8)} {rest : List (String × DataW Unit)} {g : Nat} {t e : TypeId} {n : Nat}
    (hg : P.globalNamed name = some g) (hty : (P.globals[g]?).map (·.type) = some t) (ht : P.underlying t = some (.array n e)) (he : P.underlying e = some .string) (hce : P.cellsOf e = 1) (hct : P.cellsOf t = n)
    (h : laidMet P ((name, .agg (ss.map fun s => .lit (.string s))) :: rest) W) : W.var? P name = some (ss.map fun s => Value.string ⟨s.toArray⟩).toArray := by
  obtain ⟨ps, ⟨g', t', cs, fuel, p, q, hg', ht', hvar, hd, _, _⟩, _⟩ := h
  obtain rfl := Option.some.inj (hg.symm.trans hg')
  obtain rfl := Option.some.inj (hty.symm.trans ht')
  rw [hvar, ← cells_of_strs ht he hce hct hd]
theorem glob_wds : Tryz.prog.globalNamed "toolchest/text.words" = some 6 := by kernel_rfl
/-- What is known of the variables. -/
structure AmN (W : World) : Prop where
  ml : ∃ m, W.cell? ⟨0, 0, none⟩ = some (.int .i64 m)
  wd : ∀ i, i < 27 → W.cell? ⟨6, i, none⟩ = some (.string (bz (wds.getD i [])))
theorem AmN.keep (w w' : World) (h : AmN w) (hB : Below w.heap.size w w') : AmN w' :=
  ⟨let ⟨m, hm⟩ := h.ml; ⟨m, (hB.cell (p := ⟨0, 0, none⟩) (World.block_lt_of_cell? _ _ hm)).trans hm⟩, fun i hi => (hB.cell (p := ⟨6, i, none⟩) (World.block_lt_of_cell? _ _ (h.wd i hi))).trans (h.wd i hi)⟩
theorem strs_cell {l : List (List UInt8)} {i : Nat} (hl : i < l.length) : (l.map fun s => Value.string ⟨s.toArray⟩).toArray[i]? = some (.string (bz (l.getD i []))) := by
  simp [bz, List.getD, hl]
theorem am_n {W : World} {l : List (String × DataW Unit)} (h : laidMet Tryz.prog l W) (hsh : W.ShapedOpen Tryz.prog)
    (hp : l.filter (fun x => x.1 == "toolchest/text.words") = [("toolchest/text.words", Rows.laid_toolchest_text_words)]) : AmN W := by
  have a3 := h.filter (fun x => x.1 == "toolchest/text.words")
  rw [hp, wds_text] at a3
  have hv := strs_of_head (rest := []) glob_wds (by kernel_rfl) Tryz.underlying320 Tryz.underlying9 (by kernel_rfl) (by kernel_rfl) a3
  exact ⟨maxlen W hsh, fun i hi => (World.var?_cell glob_wds hv i).trans (strs_cell (wds_length ▸ hi))⟩
theorem bulk_strs {H : Type} (Sx : Nat → ByteArray) : ∀ n, Rows.uptoBulkAll ((List.range n).map fun i => (DataW.lit (.string (Sx i).data.toList) : DataW H)) = tot ((List.range n).map Sx) + n
  | 0 => rfl
  | n + 1 => by
    rw [List.range_succ, List.map_append, List.map_append]
    have h1 : ∀ a b : List (DataW H), Rows.uptoBulkAll (a ++ b) = Rows.uptoBulkAll a + Rows.uptoBulkAll b := by
      intro a b
      induction a with
      | nil => simp [Rows.uptoBulkAll]
      | cons x a ih => simp only [List.cons_append, Rows.uptoBulkAll, ih]; omega
    have h2 : ∀ a b : List ByteArray, tot (a ++ b) = tot a + tot b := by intro a b; simp [tot]
    rw [h1, h2, bulk_strs Sx n]
    have e : (Sx n).data.toList.length = (Sx n).size := rfl
    simp only [List.map_cons, List.map_nil, Rows.uptoBulkAll, Rows.uptoBulk, tot_cons, e]
    simp [tot]; omega
set_option maxRecDepth 100000 in
/-- A slice of strings among the arguments. -/
theorem open_row {H : Type} {enc : TypeId × Value → H} {W : World} {base : Nat} {v : Value} {d : DataW H} {ps : List MemPlace}
    (hv : Value.okWide Tryz.prog W .any base 32 v) (h : DataW.Trod enc Tryz.prog W 0 (fun _ => true) true 32 v d ps) :
    ∃ ss : List ByteArray, StrsAt W v ss ∧ tot ss + ss.length ≤ Rows.uptoBulk d := by
  obtain ⟨a0, len, cap, rfl⟩ := okWide_slice Tryz.underlying32 hv
  obtain ⟨fuel, hf⟩ := h
  rcases Deep.open_strs Tryz.underlying32 Tryz.underlying9 cellsStr hf with ⟨hcs, hx⟩ | ⟨a, len', cap', m, Sx, hcs, _, hl, hm, hmm, hx, hcell⟩
  · have hcs' : Value.slice a0 len cap = .slice none 0 0 := by simpa [Value.cells] using hcs
    cases hcs'
    exact ⟨[], .inl ⟨rfl, rfl⟩, by simp [tot]⟩
  · have hcs' : Value.slice a0 len cap = .slice (some a) len' cap' := by simpa [Value.cells] using hcs
    cases hcs'
    have hok : len ≤ cap ∧ (cap : Int) ≤ IntKind.i64.max ∧ W.has Tryz.prog .any base a 9 cap := by
      have h := hv
      simp only [Value.okWide, Cell.okWide, Cell.ok, Tryz.underlying32] at h
      exact h
    obtain ⟨_, _, _, hspot, row, cells, hshape, _⟩ := hok
    obtain ⟨b, off, spot⟩ := a
    simp only at hspot
    subst hspot
    have hb : b < W.heap.size := by
      rcases Nat.lt_or_ge b W.heap.size with h' | h'
      · exact h'
      · simp [World.shape?, Array.getElem?_eq_none h'] at hshape
    simp only [if_true] at hmm
    have hll : ((List.range len).map Sx).length = len := by simp
    refine ⟨(List.range len).map Sx, .inr ⟨b, off, cap, by rw [hll], ⟨by rw [hll]; exact hl, by unfold maxLen at hm; omega⟩, hb, fun j hj => ?_⟩, ?_⟩
    · rw [hll] at hj
      have := (hcell j (by omega)).1
      rw [Addr.add_lit] at this
      rw [this]
      simp [nth, hj]
    · have e : d = _ := congrArg Prod.fst hx
      rw [e, Rows.uptoBulk, hll, bulk_strs]
      omega
end Go.Proofs.YteimilnecahifaaGreatDoor.Nm

namespace Go.Proofs
open Go.Shelf
def Tryz.lays156_ren : Go.Shelf.Ren := ⟨fun | 156 => 116 | 165 => 148 | 166 => 149 | 169 => 150 | 240 => 180 | 241 => 181 | 276 => 201 | 277 => 202 | n => n, fun | 31 => 32 | 9 => 9 | 3 => 3 | 4 => 4 | 0 => 0 | 20 => 20 | 72 => 246 | 76 => 249 | 70 => 244 | 37 => 27 | 75 => 248 | 127 => 281 | 164 => 299 | 5 => 5 | 80 => 251 | n => n, fun | n => n⟩
theorem Tryz.lays156 : Go.Proofs.Lays.n156 Tryz.prog Tryz.lays156_ren := {
  mixed := by kernel_rfl
  f156 := Tryz.func116.trans (congrArg some (by kernel_rfl))
  f165 := Tryz.func148.trans (congrArg some (by kernel_rfl))
  f166 := Tryz.func149.trans (congrArg some (by kernel_rfl))
  f169 := Tryz.func150.trans (congrArg some (by kernel_rfl))
  f240 := Tryz.func180.trans (congrArg some (by kernel_rfl))
  f241 := Tryz.func181.trans (congrArg some (by kernel_rfl))
  f276 := Tryz.func201.trans (congrArg some (by kernel_rfl))
  f277 := Tryz.func202.trans (congrArg some (by kernel_rfl))
  t0 := Tryz.underlying0
  a0 := Tryz.isAgg0
  z0 := Tryz.sizeOf0
  v0 := Tryz.zeroValue0
  t3 := Tryz.underlying3
  a3 := Tryz.isAgg3
  z3 := Tryz.sizeOf3
  v3 := Tryz.zeroValue3
  t4 := Tryz.underlying4
  a4 := Tryz.isAgg4
  z4 := Tryz.sizeOf4
  v4 := Tryz.zeroValue4
  t9 := Tryz.underlying9
  a9 := Tryz.isAgg9
  z9 := Tryz.sizeOf9
  v9 := Tryz.zeroValue9
  t20 := Tryz.underlying20
  a20 := Tryz.isAgg20
  z20 := Tryz.sizeOf20
  v20 := Tryz.zeroValue20
  t31 := Tryz.underlying32
  a31 := Tryz.isAgg32
  z31 := Tryz.sizeOf32
  v31 := Tryz.zeroValue32
  t37 := Tryz.underlying27
  a37 := Tryz.isAgg27
  z37 := Tryz.sizeOf27
  v37 := Tryz.zeroValue27
  t70 := Tryz.underlying244
  a70 := Tryz.isAgg244
  z70 := Tryz.sizeOf244
  v70 := Tryz.zeroValue244
  t72 := Tryz.underlying246
  a72 := Tryz.isAgg246
  z72 := Tryz.sizeOf246
  v72 := Tryz.zeroValue246
  t75 := Tryz.underlying248
  a75 := Tryz.isAgg248
  z75 := Tryz.sizeOf248
  v75 := Tryz.zeroValue248
  t76 := Tryz.underlying249
  a76 := Tryz.isAgg249
  z76 := Tryz.sizeOf249
  v76 := Tryz.zeroValue249
  t127 := Tryz.underlying281
  a127 := Tryz.isAgg281
  z127 := Tryz.sizeOf281
  v127 := Tryz.zeroValue281
  t164 := Tryz.underlying299
  a164 := Tryz.isAgg299
  z164 := Tryz.sizeOf299
  v164 := Tryz.zeroValue299 }
theorem Tryz.Builder_Extra_156 : Builder.Extra Tryz.prog Tryz.lays156_ren := {
  sizeBuilder := by kernel_rfl
  liesBuilder := by kernel_rfl
  t5 := Tryz.underlying5
  a5 := Tryz.isAgg5
  z5 := Tryz.sizeOf5
  v5 := Tryz.zeroValue5
  infoByte := by kernel_rfl
  cellsByte := by kernel_rfl
  sizeByte := by kernel_rfl
  neB5 := by decide }
open Go.RowKit in
theorem Tryz.strings_Join_none (a : Option Addr) (c : Nat) (sep : ByteArray) (w : World) :
    Calls Tryz.prog 116 #[.slice a 0 c, .string sep] w fun e w' => e = .returned (.string ⟨#[]⟩) ∧ w' = w := Any.strings_Join_none Tryz.lays156 Tryz.Builder_Extra_156 a c sep w
open Go.RowKit in
theorem Tryz.strings_Join (bk o c : Nat) (xs : List ByteArray) (sep : ByteArray) (w : World) (hcells : ∀ (j : Nat) x, xs[j]? = some x → w.cell? ⟨bk, o + j, none⟩ = some (.string x)) (hbk : bk < w.heap.size) (hN : xs.length ≤ 140737488355328) (hcap : xs.length ≤ c) (hlen : (Lib.join (xs.map (·.data.toList)) sep.data.toList).length ≤ 140737488355328) :
    Calls Tryz.prog 116 #[.slice (some ⟨bk, o, none⟩) xs.length c, .string sep] w fun e w' => e = .returned (.string ⟨(Lib.join (xs.map (·.data.toList)) sep.data.toList).toArray⟩) ∧ Below w.heap.size w w' := Any.strings_Join Tryz.lays156 Tryz.Builder_Extra_156 bk o c xs sep w hcells hbk hN hcap hlen
def Tryz.laysM173_ren : Go.Shelf.Ren := ⟨fun | 173 => 19 | 246 => 28 | 283 => 36 | 284 => 37 | 285 => 38 | 286 => 39 | 129 => 60 | 317 => 59 | 318 => 61 | 319 => 62 | 320 => 63 | 337 => 95 | 338 => 96 | n => n, fun | 2 => 2 | 3 => 3 | 9 => 9 | 4 => 4 | 171 => 65 | 0 => 0 | 53 => 66 | 37 => 27 | 5 => 5 | 173 => 69 | 212 => 108 | 51 => 61 | 20 => 20 | 213 => 109 | 46 => 105 | 232 => 211 | 233 => 212 | n => n, fun | 17 => 1 | 18 => 4 | 19 => 5 | n => n⟩
theorem Tryz.laysM173 : Go.Proofs.LaysM.n173 Tryz.prog Tryz.laysM173_ren := {
  mixed := by kernel_rfl
  f129 := Tryz.func60.trans (congrArg some (by kernel_rfl))
  f173 := Tryz.func19.trans (congrArg some (by kernel_rfl))
  f246 := Tryz.func28.trans (congrArg some (by kernel_rfl))
  f283 := Tryz.func36.trans (congrArg some (by kernel_rfl))
  f284 := Tryz.func37.trans (congrArg some (by kernel_rfl))
  f285 := Tryz.func38.trans (congrArg some (by kernel_rfl))
  f286 := Tryz.func39.trans (congrArg some (by kernel_rfl))
  f317 := Tryz.func59.trans (congrArg some (by kernel_rfl))
  f318 := Tryz.func61.trans (congrArg some (by kernel_rfl))
  f319 := Tryz.func62.trans (congrArg some (by kernel_rfl))
  f320 := Tryz.func63.trans (congrArg some (by kernel_rfl))
  f337 := Tryz.func95.trans (congrArg some (by kernel_rfl))
  f338 := Tryz.func96.trans (congrArg some (by kernel_rfl))
  t0 := Tryz.underlying0
  a0 := Tryz.isAgg0
  z0 := Tryz.sizeOf0
  v0 := Tryz.zeroValue0
  t2 := Tryz.underlying2
  a2 := Tryz.isAgg2
  z2 := Tryz.sizeOf2
  v2 := Tryz.zeroValue2
  t3 := Tryz.underlying3
  a3 := Tryz.isAgg3
  z3 := Tryz.sizeOf3
  v3 := Tryz.zeroValue3
  t4 := Tryz.underlying4
  a4 := Tryz.isAgg4
  z4 := Tryz.sizeOf4
  v4 := Tryz.zeroValue4
  t5 := Tryz.underlying5
  a5 := Tryz.isAgg5
  z5 := Tryz.sizeOf5
  v5 := Tryz.zeroValue5
  t9 := Tryz.underlying9
  a9 := Tryz.isAgg9
  z9 := Tryz.sizeOf9
  v9 := Tryz.zeroValue9
  t20 := Tryz.underlying20
  a20 := Tryz.isAgg20
  z20 := Tryz.sizeOf20
  v20 := Tryz.zeroValue20
  t37 := Tryz.underlying27
  a37 := Tryz.isAgg27
  z37 := Tryz.sizeOf27
  v37 := Tryz.zeroValue27
  t46 := Tryz.underlying105
  a46 := Tryz.isAgg105
  z46 := Tryz.sizeOf105
  v46 := Tryz.zeroValue105
  t51 := Tryz.underlying61
  a51 := Tryz.isAgg61
  z51 := Tryz.sizeOf61
  v51 := Tryz.zeroValue61
  t53 := Tryz.underlying66
  a53 := Tryz.isAgg66
  z53 := Tryz.sizeOf66
  v53 := Tryz.zeroValue66
  t171 := Tryz.underlying65
  a171 := Tryz.isAgg65
  z171 := Tryz.sizeOf65
  v171 := Tryz.zeroValue65
  t173 := Tryz.underlying69
  a173 := Tryz.isAgg69
  z173 := Tryz.sizeOf69
  v173 := Tryz.zeroValue69
  t212 := Tryz.underlying108
  a212 := Tryz.isAgg108
  z212 := Tryz.sizeOf108
  v212 := Tryz.zeroValue108
  t213 := Tryz.underlying109
  a213 := Tryz.isAgg109
  z213 := Tryz.sizeOf109
  t232 := Tryz.underlying211
  a232 := Tryz.isAgg211
  z232 := Tryz.sizeOf211
  v232 := Tryz.zeroValue211
  t233 := Tryz.underlying212
  a233 := Tryz.isAgg212
  z233 := Tryz.sizeOf212
  v233 := Tryz.zeroValue212
  g17 := by kernel_rfl
  g18 := by kernel_rfl
  g19 := by kernel_rfl
  i0 := by kernel_rfl
  i2 := by kernel_rfl
  i3 := by kernel_rfl
  i4 := by kernel_rfl
  i5 := by kernel_rfl
  i9 := by kernel_rfl
  i20 := by kernel_rfl
  i37 := by kernel_rfl
  i46 := by kernel_rfl
  i51 := by kernel_rfl
  i53 := by kernel_rfl
  i171 := by kernel_rfl
  i173 := by kernel_rfl
  i212 := by kernel_rfl
  i232 := by kernel_rfl
  i233 := by kernel_rfl
  m17 := by kernel_rfl
  m18 := by kernel_rfl
  m19 := by kernel_rfl }
open Go.RowKit Go.Sort Go.Lib in
theorem Tryz.strconv_FormatInt_10 (n : Int) (h0 : -9223372036854775808 ≤ n) (h1 : n ≤ 9223372036854775807) (w : World) (htab : Lib.TabIs Tryz.prog w "internal/strconv.uint64pow10" .u64 Lib.pow10Tab) :
    Calls Tryz.prog 19 #[.int .i64 n, .int .i64 10] w fun e w' => e = .returned (.string ⟨(Lib.itoa n).toArray⟩) ∧ ∃ k os, w' = grow (w.drewN k) os := Any.strconv_FormatInt_10 Tryz.laysM173 n h0 h1 w htab
def Tryz.lays148_ren : Go.Shelf.Ren := ⟨fun | 148 => 14 | 222 => 25 | 223 => 26 | 269 => 34 | n => n, fun | 9 => 9 | 3 => 3 | 4 => 4 | 5 => 5 | 146 => 62 | 51 => 61 | 46 => 105 | n => n, fun | n => n⟩
theorem Tryz.lays148 : Go.Proofs.Lays.n148 Tryz.prog Tryz.lays148_ren := {
  mixed := by kernel_rfl
  f148 := Tryz.func14.trans (congrArg some (by kernel_rfl))
  f222 := Tryz.func25.trans (congrArg some (by kernel_rfl))
  f223 := Tryz.func26.trans (congrArg some (by kernel_rfl))
  f269 := Tryz.func34.trans (congrArg some (by kernel_rfl))
  t3 := Tryz.underlying3
  a3 := Tryz.isAgg3
  z3 := Tryz.sizeOf3
  v3 := Tryz.zeroValue3
  t4 := Tryz.underlying4
  a4 := Tryz.isAgg4
  z4 := Tryz.sizeOf4
  v4 := Tryz.zeroValue4
  t5 := Tryz.underlying5
  a5 := Tryz.isAgg5
  z5 := Tryz.sizeOf5
  v5 := Tryz.zeroValue5
  t9 := Tryz.underlying9
  a9 := Tryz.isAgg9
  z9 := Tryz.sizeOf9
  v9 := Tryz.zeroValue9
  t46 := Tryz.underlying105
  a46 := Tryz.isAgg105
  z46 := Tryz.sizeOf105
  v46 := Tryz.zeroValue105
  t51 := Tryz.underlying61
  a51 := Tryz.isAgg61
  z51 := Tryz.sizeOf61
  v51 := Tryz.zeroValue61
  t146 := Tryz.underlying62
  a146 := Tryz.isAgg62
  z146 := Tryz.sizeOf62
  v146 := Tryz.zeroValue62 }
open Go.RowKit Go.Lib in
theorem Tryz.strings_LastIndex_one (s sub : ByteArray) (h1 : sub.size = 1) (hs : s.size < 4611686018427387904) (w : World) :
    Calls Tryz.prog 14 #[.string s, .string sub] w fun e w' => e = .returned (.int .i64 (Lib.lastIndexByte s ((sub[0]'(by omega)).toNat : Int))) ∧ w' = w := Any.strings_LastIndex_one Tryz.lays148 s sub h1 hs w
def Tryz.lays102_ren : Go.Shelf.Ren := ⟨fun | 102 => 16 | 209 => 27 | 207 => 35 | n => n, fun | 9 => 9 | 4 => 4 | 3 => 3 | n => n, fun | n => n⟩
theorem Tryz.lays102 : Go.Proofs.Lays.n102 Tryz.prog Tryz.lays102_ren := {
  mixed := by kernel_rfl
  f102 := Tryz.func16.trans (congrArg some (by kernel_rfl))
  f207 := Tryz.func35.trans (congrArg some (by kernel_rfl))
  f209 := Tryz.func27.trans (congrArg some (by kernel_rfl))
  t3 := Tryz.underlying3
  a3 := Tryz.isAgg3
  z3 := Tryz.sizeOf3
  v3 := Tryz.zeroValue3
  t4 := Tryz.underlying4
  a4 := Tryz.isAgg4
  z4 := Tryz.sizeOf4
  v4 := Tryz.zeroValue4
  t9 := Tryz.underlying9
  a9 := Tryz.isAgg9
  z9 := Tryz.sizeOf9
  v9 := Tryz.zeroValue9 }
open Go.RowKit Go.Lib in
theorem Tryz.strings_TrimSuffix (s p : ByteArray) (w : World) (hs : s.size ≤ 9223372036854775807) :
    Calls Tryz.prog 16 #[.string s, .string p] w fun e w' => e = .returned (.string ⟨(Lib.trimSuffix s.data.toList p.data.toList).toArray⟩) ∧ w' = w := Any.strings_TrimSuffix Tryz.lays102 s p w hs
end Go.Proofs
