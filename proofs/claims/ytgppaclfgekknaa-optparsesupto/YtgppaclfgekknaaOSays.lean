/- The landed package opt keeps what is asked of it: Parse, Has and Last. -/
import Derived.Test.YtgppaclfgekknaaOParse
namespace Go.Proofs.Ytgppaclfgekknaa
open Go.RowKit

theorem says : Says := ⟨parse_c, has_c, fun base v l c w hl hO => (last_c base v l c w hl hO).mono (by rintro e w' ⟨rfl, rfl⟩; exact ⟨rfl, Below.refl _ _⟩)⟩
end Go.Proofs.Ytgppaclfgekknaa
