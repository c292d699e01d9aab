/-
  DERIVED. GIVEN WITH THE SEED: THE CARDS: each row of YtdgnbcbcfgfkmaaDoorRows.lean that lists a variable, with what it lists TIED to the program's text (the seventh form; the later family's looks); each row that meets fmt, with fmt's text TOLD by the authors' own Lean function (tested against real Go, not proved from fmt's source: count such statements apart). THE CARD IS WHAT COUNTS. Prove the row's statement (the work); the ties are given (YtdgnbcbcfgfkmaaDoorTie.lean); close each card by the builder's one call (the guide's Derived/Test/ToyasCard.lean, 'card_holds'). Laid BY PROGRAM, IN A SANDBOX (cutbox-door.mjs). By AI agents, Wed Nov 11 2026. No macro, syntax, notation, axiom, sorry.
-/
import Derived.Test.YtdgnbcbcfgfkmaaDoorRows
import GoSem.ClaimSeven
namespace Go.Proofs.YtdgnbcbcfgfkmaaDoor
namespace Rows

/-- THE TIED CARD OF 'toolchestlaw12.OrderCompares'. -/
def orderComparesCard : Claim7 := { stood := { row := orderComparesRow, standIns := [], harness := (true, "aea327702e92b13b54abf506815b4b1e8ca5fc09863239b6d48c8f15eadeec49"), looks := false }, kinds := [], alts := [], laidByText := true, laidKinds := [.data, .pinned], laidTests := true, laidLooks := .later }
def OrderComparesCardSaid : Prop := Claim7.holds Tryd.pinned (.plain (OpenSpec.ofChange orderComparesSpec)) orderComparesCard

/-- THE TIED CARD OF 'toolchestlaw12.OrderOrders'. -/
def orderOrdersCard : Claim7 := { stood := { row := orderOrdersRow, standIns := [], harness := (true, "aea327702e92b13b54abf506815b4b1e8ca5fc09863239b6d48c8f15eadeec49"), looks := false }, kinds := [], alts := [], laidByText := true, laidKinds := [.data, .pinned], laidTests := true, laidLooks := .later }
def OrderOrdersCardSaid : Prop := Claim7.holds Tryd.pinned (.plain (OpenSpec.ofChange orderOrdersSpec)) orderOrdersCard

/-- THE TIED CARD OF 'toolchestlaw12.OrderNumbers'. -/
def orderNumbersCard : Claim7 := { stood := { row := orderNumbersRow, standIns := [], harness := (true, "aea327702e92b13b54abf506815b4b1e8ca5fc09863239b6d48c8f15eadeec49"), looks := false }, kinds := [], alts := [], laidByText := true, laidKinds := [.data, .pinned], laidTests := true, laidLooks := .later }
def OrderNumbersCardSaid : Prop := Claim7.holds Tryd.pinned (.plain (OpenSpec.ofChange orderNumbersSpec)) orderNumbersCard

/-- THE TIED CARD OF 'toolchestlaw12.OrderFields'. -/
def orderFieldsCard : Claim7 := { stood := { row := orderFieldsRow, standIns := [], harness := (true, "aea327702e92b13b54abf506815b4b1e8ca5fc09863239b6d48c8f15eadeec49"), looks := false }, kinds := [], alts := [], laidByText := true, laidKinds := [.data, .pinned], laidTests := true, laidLooks := .later }
def OrderFieldsCardSaid : Prop := Claim7.holds Tryd.pinned (.plain (OpenSpec.ofChange orderFieldsSpec)) orderFieldsCard

/-- THE SECOND FORM's CARD OF 'toolchestlaw12.OrderCompares'. -/
def orderComparesUptoCard : Claim7 := { stood := { row := orderComparesUptoRow, standIns := [], harness := (true, "aea327702e92b13b54abf506815b4b1e8ca5fc09863239b6d48c8f15eadeec49"), looks := false }, kinds := [], alts := [], laidByText := true, laidKinds := [.data, .pinned], laidTests := true, laidLooks := .later }
def OrderComparesUptoCardSaid : Prop := Claim7.holds Tryd.pinned (.plain (OpenSpec.upto orderComparesSpec)) orderComparesUptoCard

/-- THE SECOND FORM's CARD OF 'toolchestlaw12.OrderOrders'. -/
def orderOrdersUptoCard : Claim7 := { stood := { row := orderOrdersUptoRow, standIns := [], harness := (true, "aea327702e92b13b54abf506815b4b1e8ca5fc09863239b6d48c8f15eadeec49"), looks := false }, kinds := [], alts := [], laidByText := true, laidKinds := [.data, .pinned], laidTests := true, laidLooks := .later }
def OrderOrdersUptoCardSaid : Prop := Claim7.holds Tryd.pinned (.plain (OpenSpec.upto orderOrdersSpec)) orderOrdersUptoCard

/-- THE SECOND FORM's CARD OF 'toolchestlaw12.OrderNumbers'. -/
def orderNumbersUptoCard : Claim7 := { stood := { row := orderNumbersUptoRow, standIns := [], harness := (true, "aea327702e92b13b54abf506815b4b1e8ca5fc09863239b6d48c8f15eadeec49"), looks := false }, kinds := [], alts := [], laidByText := true, laidKinds := [.data, .pinned], laidTests := true, laidLooks := .later }
def OrderNumbersUptoCardSaid : Prop := Claim7.holds Tryd.pinned (.plain (OpenSpec.upto orderNumbersSpec)) orderNumbersUptoCard

/-- THE SECOND FORM's CARD OF 'toolchestlaw12.OrderFields'. -/
def orderFieldsUptoCard : Claim7 := { stood := { row := orderFieldsUptoRow, standIns := [], harness := (true, "aea327702e92b13b54abf506815b4b1e8ca5fc09863239b6d48c8f15eadeec49"), looks := false }, kinds := [], alts := [], laidByText := true, laidKinds := [.data, .pinned], laidTests := true, laidLooks := .later }
def OrderFieldsUptoCardSaid : Prop := Claim7.holds Tryd.pinned (.plain (OpenSpec.upto orderFieldsSpec)) orderFieldsUptoCard
end Rows
end Go.Proofs.YtdgnbcbcfgfkmaaDoor
