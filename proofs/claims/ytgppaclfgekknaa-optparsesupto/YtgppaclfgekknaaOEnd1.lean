/- What is proved: the law OptParses of package toolchestlaw06 answers true at every input, and leaves its arguments as they were; its condition: what it reads is of bulk at most 1048576. -/
import Derived.Test.YtgppaclfgekknaaOCard
import Derived.Test.YtgppaclfgekknaaOSays
namespace Go.Proofs.Ytgppaclfgekknaa
theorem optParsesUpto_holds : Rows.OptParsesUptoSaid := Parses.proved says
end Go.Proofs.Ytgppaclfgekknaa
