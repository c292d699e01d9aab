/- A world in which the listed package variables hold what their initialisers lay: for the cards' witnesses. -/
import Derived.Test.YtcldnodmlmmjbaaGreatDoorRows
import Derived.ProofKit
import Derived.Deep.DeepHandedRow
import Derived.Lib.LaidTab
namespace Go.Proofs.YtcldnodmlmmjbaaGreatDoor
open Go.ChangeShapes Go.WideShapes Go.ChangeAt Go.RowKit

theorem own : ownKnob Tryz.prog.godebug = none := by kernel_rfl

def cellOf : DataW Unit → Value
  | .lit (.int k z) => .int k z
  | _ => undef
/-- A listed table's cells. -/
def cellsOfData : DataW Unit → Array Value
  | .agg l => (l.flatMap fun | .agg l2 => l2.map cellOf | d => [cellOf d]).toArray
  | _ => #[]
def layCells (d : DataW Unit) : Obj → Obj
  | .cells _ t frozen => .cells (cellsOfData d) t frozen
  | o => o
/-- Both tables laid. -/
def layAll (w : World) : World :=
  { w with heap := (w.heap.modify 1 (layCells Rows.laid_unicode_utf8_first)).modify 2 (layCells Rows.laid_unicode_utf8_acceptRanges) }

theorem laid_met (os : Os) : laidMet Tryz.prog Rows.treeHoldsUptoRow.laid ((layAll (World.holding Tryz.prog os ⟨#[], #[], []⟩)).forCall (fun _ _ => 0) ⟨#[], #[Value.string ByteArray.empty, Value.slice none 0 0, Value.slice none 0 0], []⟩).memory :=
  laidMet_of_run' 8 (by kernel_rfl) (by kernel_rfl)
end Go.Proofs.YtcldnodmlmmjbaaGreatDoor
