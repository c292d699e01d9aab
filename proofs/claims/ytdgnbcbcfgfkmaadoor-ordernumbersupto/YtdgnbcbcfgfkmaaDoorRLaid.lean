/- A world for the witness of stage 12's laws, its tables laid. -/
import Derived.Test.YtdgnbcbcfgfkmaaDoorRows
import Derived.ProofKit
import Derived.Deep.DeepHandedRow
import Derived.Lib.LaidTab
import Derived.OpenShut
namespace Go.Proofs.YtdgnbcbcfgfkmaaDoor.OrLaid
open Go.ChangeShapes Go.WideShapes Go.ChangeAt Go.RowKit
open Go.WideMaps Go.WideElems

def cellOf : DataW Unit → Value
  | .lit (.int k z) => .int k z
  | .lit (.string l) => .string ⟨l.toArray⟩
  | _ => undef
def cellsOfData : DataW Unit → Array Value
  | .agg l => (l.flatMap fun | .agg l2 => l2.map cellOf | d => [cellOf d]).toArray
  | _ => #[]
def layCells (d : DataW Unit) : Obj → Obj
  | .cells _ t frozen => .cells (cellsOfData d) t frozen
  | o => o
/-- The tables laid. -/
def layAll (w : World) : World :=
  { w with heap := (w.heap.modify 1 (layCells Rows.laid_unicode_utf8_first)).modify 2 (layCells Rows.laid_unicode_utf8_acceptRanges) }
end Go.Proofs.YtdgnbcbcfgfkmaaDoor.OrLaid
