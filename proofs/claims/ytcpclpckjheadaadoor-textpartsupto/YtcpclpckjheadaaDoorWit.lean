/- A world in which the listed package variables hold what their initialisers lay: for the cards' witnesses. -/
import Derived.Test.YtcpclpckjheadaaDoorRows
import Derived.ProofKit
import Derived.Deep.DeepHandedRow
import Derived.Lib.LaidTab
namespace Go.Proofs.YtcpclpckjheadaaDoor
open Go.ChangeShapes Go.WideShapes Go.ChangeAt Go.RowKit

theorem own : ownKnob Tryd.prog.godebug = none := by kernel_rfl

/-- A listed table's cells. -/
def cellsOfData : DataW Unit → Array Value
  | .agg l => (l.map fun | .lit (.int k z) => Value.int k z | .lit (.string b) => .string ⟨b.toArray⟩ | _ => undef).toArray
  | _ => #[]
def layCells (d : DataW Unit) : Obj → Obj
  | .cells _ t frozen => .cells (cellsOfData d) t frozen
  | o => o
/-- All five tables laid. -/
def layAll (w : World) : World :=
  { w with heap := ((((w.heap.modify 0 (layCells Rows.laid_toolchest_text_words)).modify 1 (layCells Rows.laid_toolchest_toolchestref01_words)).modify 2 (layCells Rows.laid_internal_strconv_uint64pow10)).modify 3 (layCells Rows.laid_math_bits_deBruijn32tab)).modify 4 (layCells Rows.laid_math_bits_deBruijn64tab) }
end Go.Proofs.YtcpclpckjheadaaDoor
