/-
  DERIVED. GIVEN WITH THE SEED: THE CARDS: each row of YtlekfdkahlobiaaGreatDoorRows.lean that lists a variable, with what it lists TIED to the program's text (the seventh form; the later family's looks); each row that meets fmt, with fmt's text TOLD by the authors' own Lean function (tested against real Go, not proved from fmt's source: count such statements apart). THE CARD IS WHAT COUNTS. Prove the row's statement (the work); the ties are given (YtlekfdkahlobiaaGreatDoorTie.lean); close each card by the builder's one call (the guide's Derived/Test/ToyasCard.lean, 'card_holds'). Laid BY PROGRAM, IN A SANDBOX (cutbox-door.mjs). By AI agents, Wed Nov 11 2026. No macro, syntax, notation, axiom, sorry.
-/
import Derived.Test.YtlekfdkahlobiaaGreatDoorRows
import GoSem.ClaimSeven
namespace Go.Proofs.YtlekfdkahlobiaaGreatDoor
namespace Rows

/-- THE TIED CARD OF 'toolchestlaw15.RegexNodes'. -/
def regexNodesCard : Claim7 := { stood := { row := regexNodesRow, standIns := [], harness := (true, "2fb00d35d57092ae94fe31711e1a6c6082c79ed4283576aaa39adfb3847fce93"), looks := false }, kinds := [], alts := [], laidByText := true, laidKinds := [.data, .data, .data], laidTests := true, laidLooks := .later }
def RegexNodesCardSaid : Prop := Claim7.holds Tryz.pinned (.plain (OpenSpec.ofChange regexNodesSpec)) regexNodesCard

/-- THE TIED CARD OF 'toolchestlaw15.RegexQuotes'. -/
def regexQuotesCard : Claim7 := { stood := { row := regexQuotesRow, standIns := [], harness := (true, "2fb00d35d57092ae94fe31711e1a6c6082c79ed4283576aaa39adfb3847fce93"), looks := false }, kinds := [], alts := [], laidByText := true, laidKinds := [.data, .data, .data], laidTests := true, laidLooks := .later }
def RegexQuotesCardSaid : Prop := Claim7.holds Tryz.pinned (.plain (OpenSpec.ofChange regexQuotesSpec)) regexQuotesCard

/-- THE TIED CARD OF 'toolchestlaw15.RegexParts'. -/
def regexPartsCard : Claim7 := { stood := { row := regexPartsRow, standIns := [], harness := (true, "2fb00d35d57092ae94fe31711e1a6c6082c79ed4283576aaa39adfb3847fce93"), looks := false }, kinds := [], alts := [], laidByText := true, laidKinds := [.data, .data, .data], laidTests := true, laidLooks := .later }
def RegexPartsCardSaid : Prop := Claim7.holds Tryz.pinned (.plain (OpenSpec.ofChange regexPartsSpec)) regexPartsCard

/-- THE SECOND FORM's CARD OF 'toolchestlaw15.RegexNodes'. -/
def regexNodesUptoCard : Claim7 := { stood := { row := regexNodesUptoRow, standIns := [], harness := (true, "2fb00d35d57092ae94fe31711e1a6c6082c79ed4283576aaa39adfb3847fce93"), looks := false }, kinds := [], alts := [], laidByText := true, laidKinds := [.data, .data, .data], laidTests := true, laidLooks := .later }
def RegexNodesUptoCardSaid : Prop := Claim7.holds Tryz.pinned (.plain (OpenSpec.upto regexNodesSpec)) regexNodesUptoCard

/-- THE SECOND FORM's CARD OF 'toolchestlaw15.RegexQuotes'. -/
def regexQuotesUptoCard : Claim7 := { stood := { row := regexQuotesUptoRow, standIns := [], harness := (true, "2fb00d35d57092ae94fe31711e1a6c6082c79ed4283576aaa39adfb3847fce93"), looks := false }, kinds := [], alts := [], laidByText := true, laidKinds := [.data, .data, .data], laidTests := true, laidLooks := .later }
def RegexQuotesUptoCardSaid : Prop := Claim7.holds Tryz.pinned (.plain (OpenSpec.upto regexQuotesSpec)) regexQuotesUptoCard

/-- THE SECOND FORM's CARD OF 'toolchestlaw15.RegexParts'. -/
def regexPartsUptoCard : Claim7 := { stood := { row := regexPartsUptoRow, standIns := [], harness := (true, "2fb00d35d57092ae94fe31711e1a6c6082c79ed4283576aaa39adfb3847fce93"), looks := false }, kinds := [], alts := [], laidByText := true, laidKinds := [.data, .data, .data], laidTests := true, laidLooks := .later }
def RegexPartsUptoCardSaid : Prop := Claim7.holds Tryz.pinned (.plain (OpenSpec.upto regexPartsSpec)) regexPartsUptoCard
end Rows
end Go.Proofs.YtlekfdkahlobiaaGreatDoor
