/- What the landed program gives. -/
import Derived.Test.YtlekfdkahlobiaaGreatDoorHIt
import Derived.Test.YtlekfdkahlobiaaGreatDoorHAny
import Derived.Test.YtlekfdkahlobiaaGreatDoorHSize
import Derived.Test.YtlekfdkahlobiaaGreatDoorGLaw5
import Derived.Test.YtlekfdkahlobiaaGreatDoorRows
import Derived.ProofKit
import Derived.OpenShut
import Derived.JoinedCond
import Derived.Deep.DeepHandedRow
import Derived.Lib.LaidTab
import Derived.LaidSub
import Derived.Shelf.Vars
namespace Go.Proofs.YtlekfdkahlobiaaGreatDoor.Re
open Go.Proofs.YtlekfdkahlobiaaGreatDoor.Tr
open Go.RowKit

theorem says_re : Says AmS ReP := {
  keep := fun _ _ h hB => h.keep hB
  keepR := fun _ _ _ _ h hB => h.keep hB
  parse := fun s ext fold w hA hs => by
    obtain ⟨m, hm⟩ := hA.ml
    have hp := parse_c (w := w) (m := m) s.data.toList ext fold (by have e : s.data.toList.length = s.size := rfl; omega) hA.gM hm
    unfold PsOut
    refine hp.mono fun e w' h => ?_
    cases hR : parseS ext fold s.data.toList with
    | ok x => rw [hR] at h; exact h
    | error n => rw [hR] at h; exact h
  text := fun _ _ _ hA _ hr hok => string_c hA hr hok.1 hok.2 }
theorem size_says : SizeC AmS ReP := fun _ _ _ _ _ hr _ hz => size_c hr hz
theorem any_says : AnyC AmS ReP := fun _ _ _ _ hR hl _ => any_c hR hl
theorem whole_says : WholeC AmS ReP := fun _ _ _ _ _ hr _ => wholeRe_c hr
theorem node_says : NodeC AmS ReP := fun _ _ _ _ _ hr hok => (node_c hr hok.2).mono fun _ _ ⟨u, h1, h2, h3⟩ => ⟨u, h1, h2.node, h3⟩
end Go.Proofs.YtlekfdkahlobiaaGreatDoor.Re

namespace Go.Proofs.YtlekfdkahlobiaaGreatDoor.ReLaid
open Go.ChangeShapes Go.WideShapes Go.ChangeAt Go.RowKit
open Go.WideMaps Go.WideElems

theorem own : ownKnob Tryz.prog.godebug = none := by kernel_rfl
theorem laidOut : laidOutB Tryz.prog = true := by kernel_rfl
def cellOf : DataW Unit → Value
  | .lit (.int k z) => .int k z
  | .lit (.string l) => .string ⟨l.toArray⟩
  | _ => undef
def cellsOfData : DataW Unit → Array Value
  | .agg l => (l.flatMap fun | .agg l2 => l2.map cellOf | d => [cellOf d]).toArray
  | _ => #[]
def layCells (d : DataW Unit) : Obj → Obj
  | .cells _ t frozen => .cells (cellsOfData d) t frozen
  | o => o
/-- The tables laid. -/
def layAll (w : World) : World :=
  { w with heap := ((w.heap.modify 1 (layCells Rows.laid_math_bits_deBruijn32tab)).modify 2 (layCells Rows.laid_math_bits_deBruijn64tab)).modify 0 (layCells Rows.laid_internal_strconv_uint64pow10) }
theorem maxlen (W : World) (h : W.ShapedOpen Tryz.prog) : ∃ m, W.cell? ⟨3, 0, none⟩ = some (.int .i64 m) :=
  Go.Proofs.cell_of_shapedOpen_int (zero := #[.int .i64 0]) (t := 3) h (of_decide_eq_true (by kernel_rfl)) (by kernel_rfl) rfl (by kernel_rfl) (by kernel_rfl) Tryz.underlying3
theorem ams {W : World} {l : List (String × DataW Unit)} (h : laidMet Tryz.prog l W) (hsh : W.ShapedOpen Tryz.prog)
    (hp : l.filter (fun x => x.1 == "internal/strconv.uint64pow10") = [("internal/strconv.uint64pow10", Rows.laid_internal_strconv_uint64pow10)]) : Re.AmS W := by
  have a2 := h.filter (fun x => x.1 == "internal/strconv.uint64pow10")
  rw [hp] at a2
  have hp10 : Lib.TabIs Tryz.prog W "internal/strconv.uint64pow10" .u64 Lib.pow10Tab :=
    Lib.tabIs_of_head (rest := []) Re.glob_pow (by kernel_rfl) Tryz.underlying120 Tryz.underlying105 (by kernel_rfl) (by kernel_rfl) a2
  obtain ⟨m, hm⟩ := maxlen W hsh
  refine ⟨World.block_lt_of_cell? W _ hm, ⟨m, hm⟩, ?_, hp10⟩
  unfold Lib.TabIs World.var? at hp10
  rw [Re.glob_pow] at hp10
  simp only [Option.bind_some] at hp10
  rcases Nat.lt_or_ge 0 W.heap.size with h' | h'
  · exact h'
  · rw [Array.getElem?_eq_none h'] at hp10
    cases hp10
end Go.Proofs.YtlekfdkahlobiaaGreatDoor.ReLaid
