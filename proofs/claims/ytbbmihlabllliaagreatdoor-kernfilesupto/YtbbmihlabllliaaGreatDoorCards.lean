/-
  DERIVED. GIVEN WITH THE SEED: THE CARDS: each row of YtbbmihlabllliaaGreatDoorRows.lean that lists a variable, with what it lists TIED to the program's text (the seventh form; the later family's looks); each row that meets fmt, with fmt's text TOLD by the authors' own Lean function (tested against real Go, not proved from fmt's source: count such statements apart). THE CARD IS WHAT COUNTS. Prove the row's statement (the work); the ties are given (YtbbmihlabllliaaGreatDoorTie.lean); close each card by the builder's one call (the guide's Derived/Test/ToyasCard.lean, 'card_holds'). Laid BY PROGRAM, IN A SANDBOX (cutbox-door.mjs). By AI agents, Wed Nov 11 2026. No macro, syntax, notation, axiom, sorry.
-/
import Derived.Test.YtbbmihlabllliaaGreatDoorRows
import GoSem.ClaimSeven
namespace Go.Proofs.YtbbmihlabllliaaGreatDoor
namespace Rows

/-- THE TIED CARD OF 'toolchestlaw03.KernDoes'. -/
def kernDoesCard : Claim7 := { stood := { row := kernDoesRow, standIns := [], harness := (true, "b7b74e5f7ca27b9ca9fce40fe330f0628ac397324caf26f6a246d6aa4921d527"), looks := true }, kinds := [], alts := [], laidByText := true, laidKinds := [.data, .pinned], laidTests := true, laidLooks := .later }
def KernDoesCardSaid : Prop := Claim7.holds Tryz.pinned (.plain (OpenSpec.ofChange kernDoesSpec)) kernDoesCard

/-- THE TIED CARD OF 'toolchestlaw03.KernPipes'. -/
def kernPipesCard : Claim7 := { stood := { row := kernPipesRow, standIns := [], harness := (true, "b7b74e5f7ca27b9ca9fce40fe330f0628ac397324caf26f6a246d6aa4921d527"), looks := true }, kinds := [], alts := [], laidByText := true, laidKinds := [.data, .pinned], laidTests := true, laidLooks := .later }
def KernPipesCardSaid : Prop := Claim7.holds Tryz.pinned (.plain (OpenSpec.ofChange kernPipesSpec)) kernPipesCard

/-- THE TIED CARD OF 'toolchestlaw03.KernFiles'. -/
def kernFilesCard : Claim7 := { stood := { row := kernFilesRow, standIns := [], harness := (true, "b7b74e5f7ca27b9ca9fce40fe330f0628ac397324caf26f6a246d6aa4921d527"), looks := true }, kinds := [], alts := [], laidByText := true, laidKinds := [.data, .pinned], laidTests := true, laidLooks := .later }
def KernFilesCardSaid : Prop := Claim7.holds Tryz.pinned (.plain (OpenSpec.ofChange kernFilesSpec)) kernFilesCard

/-- THE SECOND FORM's CARD OF 'toolchestlaw03.KernDoes'. -/
def kernDoesUptoCard : Claim7 := { stood := { row := kernDoesUptoRow, standIns := [], harness := (true, "b7b74e5f7ca27b9ca9fce40fe330f0628ac397324caf26f6a246d6aa4921d527"), looks := true }, kinds := [], alts := [], laidByText := true, laidKinds := [.data, .pinned], laidTests := true, laidLooks := .later }
def KernDoesUptoCardSaid : Prop := Claim7.holds Tryz.pinned (.plain (OpenSpec.upto kernDoesSpec)) kernDoesUptoCard

/-- THE SECOND FORM's CARD OF 'toolchestlaw03.KernPipes'. -/
def kernPipesUptoCard : Claim7 := { stood := { row := kernPipesUptoRow, standIns := [], harness := (true, "b7b74e5f7ca27b9ca9fce40fe330f0628ac397324caf26f6a246d6aa4921d527"), looks := true }, kinds := [], alts := [], laidByText := true, laidKinds := [.data, .pinned], laidTests := true, laidLooks := .later }
def KernPipesUptoCardSaid : Prop := Claim7.holds Tryz.pinned (.plain (OpenSpec.upto kernPipesSpec)) kernPipesUptoCard

/-- THE SECOND FORM's CARD OF 'toolchestlaw03.KernFiles'. -/
def kernFilesUptoCard : Claim7 := { stood := { row := kernFilesUptoRow, standIns := [], harness := (true, "b7b74e5f7ca27b9ca9fce40fe330f0628ac397324caf26f6a246d6aa4921d527"), looks := true }, kinds := [], alts := [], laidByText := true, laidKinds := [.data, .pinned], laidTests := true, laidLooks := .later }
def KernFilesUptoCardSaid : Prop := Claim7.holds Tryz.pinned (.plain (OpenSpec.upto kernFilesSpec)) kernFilesUptoCard
end Rows
end Go.Proofs.YtbbmihlabllliaaGreatDoor
