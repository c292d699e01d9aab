/-
  NARROWER THAN 'FOR EVERY INPUT', by the rows' own cells (each row's printed sentence says how): TransSets: laid · TransBack: laid · TransApart: laid.
  DERIVED. THE GIVEN ROWS OF THIS SEAT. 3 by the template 'for every input the law returns true; each argument reads behind the call as it read before'; 0 by the template 'total and deterministic' (their statements: YtfkoehfkiommpaaGreatDoorTotals.lean).
  GIVEN WITH THE SEED: the statements are not yours to turn. If you find one false, say at which input.
  Laid BY PROGRAM, IN A SANDBOX (cutbox-rows.mjs): the forced cells as the released guide's own fill.sh prints them over the translation c9f71c81529220d6… (all of the seat's roots in one cut). By AI agents, Wed Nov 11 2026. No macro, syntax, notation, axiom, sorry.
-/
import Derived.Test.YtfkoehfkiommpaaGreatDoorChecked
import GoSem.PinnedTables
import GoSem.Claim
import GoSem.ClaimJoined
import GoSem.ClaimMapViews
import Derived.JoinedTies
import Derived.KernelRfl
namespace Go.Proofs.YtfkoehfkiommpaaGreatDoor
/- THE CELL 'sum', in the pinned program and in every row, IS THE sha256 OF THE DUMP (.gsa) THAT YtfkoehfkiommpaaGreatDoorProg.lean LOADS. Nothing in Lean hashes anything: it is a label: what it is worth is what the hold of that sum in a sandbox is worth. -/
noncomputable def Tryz.pinned : Pinned := { name := "ytfkoehfkiommpaagreatdoor", sum := "c9f71c81529220d6262636480e868852f7090335eb540dbc9578f2b5571da0cc", checked := Tryz.checked }
namespace Rows
def none {H : Type} : Left H := { results := [], args := [] }

/- WHAT THE LISTED PACKAGE-LEVEL VARIABLES READ AS WHEN THE CALL BEGINS. Each datum BY PROGRAM (the guide's laid-datum.mjs) off the statement by which the dump's own 'gosem.cut.vars' lays the variable. In a bare row this is a premise. The card (YtfkoehfkiommpaaGreatDoorCards.lean) ties it to the program's text. -/
def laid_unicode_utf8_acceptRanges {H : Type} : DataW H := .agg [.agg [.lit (.int .u8 128), .lit (.int .u8 191)], .agg [.lit (.int .u8 160), .lit (.int .u8 191)], .agg [.lit (.int .u8 128), .lit (.int .u8 159)], .agg [.lit (.int .u8 144), .lit (.int .u8 191)], .agg [.lit (.int .u8 128), .lit (.int .u8 143)], .agg [.lit (.int .u8 0), .lit (.int .u8 0)], .agg [.lit (.int .u8 0), .lit (.int .u8 0)], .agg [.lit (.int .u8 0), .lit (.int .u8 0)], .agg [.lit (.int .u8 0), .lit (.int .u8 0)], .agg [.lit (.int .u8 0), .lit (.int .u8 0)], .agg [.lit (.int .u8 0), .lit (.int .u8 0)], .agg [.lit (.int .u8 0), .lit (.int .u8 0)], .agg [.lit (.int .u8 0), .lit (.int .u8 0)], .agg [.lit (.int .u8 0), .lit (.int .u8 0)], .agg [.lit (.int .u8 0), .lit (.int .u8 0)], .agg [.lit (.int .u8 0), .lit (.int .u8 0)]]
def laid_toolchest_text_words {H : Type} : DataW H := .agg [.lit (.string [101, 114, 114, 111, 114]), .lit (.string [110, 111, 32, 115, 117, 99, 104, 32, 102, 105, 108, 101]), .lit (.string [102, 105, 108, 101, 32, 101, 120, 105, 115, 116, 115]), .lit (.string [110, 111, 116, 32, 97, 32, 100, 105, 114, 101, 99, 116, 111, 114, 121]), .lit (.string [105, 115, 32, 97, 32, 100, 105, 114, 101, 99, 116, 111, 114, 121]), .lit (.string [100, 105, 114, 101, 99, 116, 111, 114, 121, 32, 110, 111, 116, 32, 101, 109, 112, 116, 121]), .lit (.string [110, 111, 32, 115, 112, 97, 99, 101, 32, 108, 101, 102, 116]), .lit (.string [105, 110, 112, 117, 116, 47, 111, 117, 116, 112, 117, 116, 32, 101, 114, 114, 111, 114]), .lit (.string [98, 114, 111, 107, 101, 110, 32, 112, 105, 112, 101]), .lit (.string [105, 110, 116, 101, 114, 114, 117, 112, 116, 101, 100]), .lit (.string [110, 111, 116, 32, 110, 111, 119]), .lit (.string [98, 97, 100, 32, 100, 101, 115, 99, 114, 105, 112, 116, 111, 114]), .lit (.string [116, 111, 111, 32, 109, 97, 110, 121]), .lit (.string [98, 97, 100, 32, 110, 97, 109, 101]), .lit (.string [116, 111, 111, 32, 100, 101, 101, 112]), .lit (.string [98, 117, 115, 121]), .lit (.string [105, 110, 118, 97, 108, 105, 100]), .lit (.string [98, 97, 100, 32, 97, 114, 103, 117, 109, 101, 110, 116]), .lit (.string [108, 105, 110, 101, 32, 116, 111, 111, 32, 108, 111, 110, 103]), .lit (.string [117, 115, 97, 103, 101]), .lit (.string [98, 97, 100, 32, 114, 101, 103, 117, 108, 97, 114, 32, 101, 120, 112, 114, 101, 115, 115, 105, 111, 110]), .lit (.string [98, 97, 100, 32, 115, 99, 114, 105, 112, 116]), .lit (.string [110, 111, 116, 32, 102, 111, 117, 110, 100]), .lit (.string [115, 97, 109, 101, 32, 102, 105, 108, 101]), .lit (.string [98, 97, 100, 32, 115, 121, 110, 116, 97, 120]), .lit (.string [110, 111, 116, 32, 97, 32, 110, 117, 109, 98, 101, 114]), .lit (.string [110, 111, 116, 32, 105, 110, 32, 111, 114, 100, 101, 114])]
/-- One of Go's own tables, pinned by name: the form's constant. -/
def laid_unicode_utf8_first : DataW Unit := Go.Pinned.utf8First

/-- 'toolchestlaw10.TransSets': WHATEVER THE INPUT: true; the input reads as it did. -/
def transSetsSpec : ChangeSpec := { name := "transSets", fn := fun _ => fun
  | [d] => { results := [.lit (.bool true)], args := [d] }
  | _ => none }
def transSetsRow : OpenClaim := { program := "ytfkoehfkiommpaagreatdoor", sum := "c9f71c81529220d6262636480e868852f7090335eb540dbc9578f2b5571da0cc", func := "toolchest/toolchestlaw10.TransSets", spec := "transSets", inPlace := ["internal/bytealg.IndexByteString", "internal/bytealg.IndexString", "internal/bytealg.MakeNoZero", "internal/bytealg.CountString", "sync/atomic.AddInt64", "internal/bytealg.abigen_runtime_cmpstring", "slices.overlaps[byte]"], unfollowed := true, recurses := true, named := ["internal/bytealg.MaxLen", "unicode/utf8.first", "unicode/utf8.acceptRanges", "toolchest/text.words"], apart := false, laid := [("unicode/utf8.acceptRanges", laid_unicode_utf8_acceptRanges), ("toolchest/text.words", laid_toolchest_text_words), ("unicode/utf8.first", laid_unicode_utf8_first)] }
def TransSetsSaid : Prop := transSetsRow.holds Tryz.pinned (OpenSpec.ofChange transSetsSpec)

/-- ITS FALSE NEIGHBOUR: 'it returns false'. Refute it at one input. -/
def transSetsWrong : ChangeSpec := { name := "transSets", fn := fun _ => fun
  | [d] => { results := [.lit (.bool false)], args := [d] }
  | _ => none }
def TransSetsWrongFalsely : Prop := transSetsRow.holds Tryz.pinned (OpenSpec.ofChange transSetsWrong)

/-- 'toolchestlaw10.TransBack': WHATEVER THE INPUT: true; the input reads as it did. -/
def transBackSpec : ChangeSpec := { name := "transBack", fn := fun _ => fun
  | [d1, d2, d3, d4] => { results := [.lit (.bool true)], args := [d1, d2, d3, d4] }
  | _ => none }
def transBackRow : OpenClaim := { program := "ytfkoehfkiommpaagreatdoor", sum := "c9f71c81529220d6262636480e868852f7090335eb540dbc9578f2b5571da0cc", func := "toolchest/toolchestlaw10.TransBack", spec := "transBack", inPlace := ["internal/bytealg.IndexByteString", "internal/bytealg.IndexString", "internal/bytealg.MakeNoZero", "internal/bytealg.CountString", "sync/atomic.AddInt64", "internal/bytealg.abigen_runtime_cmpstring", "slices.overlaps[byte]"], unfollowed := true, recurses := true, named := ["internal/bytealg.MaxLen", "unicode/utf8.first", "unicode/utf8.acceptRanges", "toolchest/text.words"], apart := false, laid := [("unicode/utf8.acceptRanges", laid_unicode_utf8_acceptRanges), ("toolchest/text.words", laid_toolchest_text_words), ("unicode/utf8.first", laid_unicode_utf8_first)] }
def TransBackSaid : Prop := transBackRow.holds Tryz.pinned (OpenSpec.ofChange transBackSpec)

/-- ITS FALSE NEIGHBOUR: 'it returns false'. Refute it at one input. -/
def transBackWrong : ChangeSpec := { name := "transBack", fn := fun _ => fun
  | [d1, d2, d3, d4] => { results := [.lit (.bool false)], args := [d1, d2, d3, d4] }
  | _ => none }
def TransBackWrongFalsely : Prop := transBackRow.holds Tryz.pinned (OpenSpec.ofChange transBackWrong)

/-- 'toolchestlaw10.TransApart': WHATEVER THE INPUT: true; the input reads as it did. -/
def transApartSpec : ChangeSpec := { name := "transApart", fn := fun _ => fun
  | [d1, d2, d3] => { results := [.lit (.bool true)], args := [d1, d2, d3] }
  | _ => none }
def transApartRow : OpenClaim := { program := "ytfkoehfkiommpaagreatdoor", sum := "c9f71c81529220d6262636480e868852f7090335eb540dbc9578f2b5571da0cc", func := "toolchest/toolchestlaw10.TransApart", spec := "transApart", inPlace := ["internal/bytealg.IndexByteString", "internal/bytealg.IndexString", "internal/bytealg.MakeNoZero", "internal/bytealg.CountString", "sync/atomic.AddInt64", "internal/bytealg.abigen_runtime_cmpstring", "slices.overlaps[byte]"], unfollowed := true, recurses := true, named := ["internal/bytealg.MaxLen", "unicode/utf8.first", "unicode/utf8.acceptRanges", "toolchest/text.words"], apart := false, laid := [("unicode/utf8.acceptRanges", laid_unicode_utf8_acceptRanges), ("toolchest/text.words", laid_toolchest_text_words), ("unicode/utf8.first", laid_unicode_utf8_first)] }
def TransApartSaid : Prop := transApartRow.holds Tryz.pinned (OpenSpec.ofChange transApartSpec)

/-- ITS FALSE NEIGHBOUR: 'it returns false'. Refute it at one input. -/
def transApartWrong : ChangeSpec := { name := "transApart", fn := fun _ => fun
  | [d1, d2, d3] => { results := [.lit (.bool false)], args := [d1, d2, d3] }
  | _ => none }
def TransApartWrongFalsely : Prop := transApartRow.holds Tryz.pinned (OpenSpec.ofChange transApartWrong)

/- THE SECOND FORM. 'bulk': how many values and letters a reading holds, each counted each time it is reached (what is shared counts as often as it is met; a slice's spare places count too). A statement '..UptoSaid' is the law's where the arguments, and the package variables that the reading takes, are together of bulk at most 1048576: NARROWER than '..Said'. Prove '..Said' where nothing that the law and all that it calls make is longer than what came in: it says more and counts as full. Else prove '..UptoSaid'. A law counts once. -/
mutual
def uptoBulk {H : Type} : DataW H → Nat
  | .lit (.string bytes) => bytes.length + 1
  | .lit _ => 1
  | .nil => 1
  | .ptr d => uptoBulk d + 1
  | .slice elems spare => uptoBulkAll elems + uptoBulkAll spare + 1
  | .agg parts => uptoBulkAll parts + 1
  | .iface _ d => uptoBulk d + 1
  | .map entries => uptoBulkEntries entries + 1
  | .held _ => 1
def uptoBulkAll {H : Type} : List (DataW H) → Nat
  | [] => 0
  | d :: r => uptoBulk d + uptoBulkAll r
def uptoBulkEntries {H : Type} : List (Lit × DataW H) → Nat
  | [] => 0
  | x :: r => uptoBulkEntry x + uptoBulkEntries r
def uptoBulkEntry {H : Type} : Lit × DataW H → Nat
  | (.string bytes, d) => bytes.length + uptoBulk d + 1
  | (_, d) => uptoBulk d + 1
 end
def uptoSmall : (H : Type) → List (DataW H) → Bool := fun _ ds => decide (uptoBulkAll ds ≤ 1048576)
def OpenSpec.upto (s : _root_.Go.ChangeSpec) : _root_.Go.OpenSpec := { _root_.Go.OpenSpec.ofChange s with cond := some uptoSmall }

/-- 'toolchestlaw10.TransSets', WHERE WHAT IT READS IS OF BULK AT MOST 1048576: true; the input reads as it did. -/
def transSetsUptoRow : OpenClaim := { program := "ytfkoehfkiommpaagreatdoor", sum := "c9f71c81529220d6262636480e868852f7090335eb540dbc9578f2b5571da0cc", func := "toolchest/toolchestlaw10.TransSets", spec := "transSets", inPlace := ["internal/bytealg.IndexByteString", "internal/bytealg.IndexString", "internal/bytealg.MakeNoZero", "internal/bytealg.CountString", "sync/atomic.AddInt64", "internal/bytealg.abigen_runtime_cmpstring", "slices.overlaps[byte]"], unfollowed := true, recurses := true, named := ["internal/bytealg.MaxLen", "unicode/utf8.first", "unicode/utf8.acceptRanges", "toolchest/text.words"], apart := false, laid := [("unicode/utf8.acceptRanges", laid_unicode_utf8_acceptRanges), ("toolchest/text.words", laid_toolchest_text_words), ("unicode/utf8.first", laid_unicode_utf8_first)], narrowed := true }
def TransSetsUptoSaid : Prop := transSetsUptoRow.holds Tryz.pinned (OpenSpec.upto transSetsSpec)

/-- 'toolchestlaw10.TransBack', WHERE WHAT IT READS IS OF BULK AT MOST 1048576: true; the input reads as it did. -/
def transBackUptoRow : OpenClaim := { program := "ytfkoehfkiommpaagreatdoor", sum := "c9f71c81529220d6262636480e868852f7090335eb540dbc9578f2b5571da0cc", func := "toolchest/toolchestlaw10.TransBack", spec := "transBack", inPlace := ["internal/bytealg.IndexByteString", "internal/bytealg.IndexString", "internal/bytealg.MakeNoZero", "internal/bytealg.CountString", "sync/atomic.AddInt64", "internal/bytealg.abigen_runtime_cmpstring", "slices.overlaps[byte]"], unfollowed := true, recurses := true, named := ["internal/bytealg.MaxLen", "unicode/utf8.first", "unicode/utf8.acceptRanges", "toolchest/text.words"], apart := false, laid := [("unicode/utf8.acceptRanges", laid_unicode_utf8_acceptRanges), ("toolchest/text.words", laid_toolchest_text_words), ("unicode/utf8.first", laid_unicode_utf8_first)], narrowed := true }
def TransBackUptoSaid : Prop := transBackUptoRow.holds Tryz.pinned (OpenSpec.upto transBackSpec)

/-- 'toolchestlaw10.TransApart', WHERE WHAT IT READS IS OF BULK AT MOST 1048576: true; the input reads as it did. -/
def transApartUptoRow : OpenClaim := { program := "ytfkoehfkiommpaagreatdoor", sum := "c9f71c81529220d6262636480e868852f7090335eb540dbc9578f2b5571da0cc", func := "toolchest/toolchestlaw10.TransApart", spec := "transApart", inPlace := ["internal/bytealg.IndexByteString", "internal/bytealg.IndexString", "internal/bytealg.MakeNoZero", "internal/bytealg.CountString", "sync/atomic.AddInt64", "internal/bytealg.abigen_runtime_cmpstring", "slices.overlaps[byte]"], unfollowed := true, recurses := true, named := ["internal/bytealg.MaxLen", "unicode/utf8.first", "unicode/utf8.acceptRanges", "toolchest/text.words"], apart := false, laid := [("unicode/utf8.acceptRanges", laid_unicode_utf8_acceptRanges), ("toolchest/text.words", laid_toolchest_text_words), ("unicode/utf8.first", laid_unicode_utf8_first)], narrowed := true }
def TransApartUptoSaid : Prop := transApartUptoRow.holds Tryz.pinned (OpenSpec.upto transApartSpec)

end Rows
end Go.Proofs.YtfkoehfkiommpaaGreatDoor
