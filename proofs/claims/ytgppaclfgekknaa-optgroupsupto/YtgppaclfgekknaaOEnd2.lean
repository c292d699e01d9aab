/- What is proved: the law OptGroups of package toolchestlaw06 answers true at every input, and leaves its arguments as they were; its condition: what it reads is of bulk at most 1048576. -/
import Derived.Test.YtgppaclfgekknaaOGCard
import Derived.Test.YtgppaclfgekknaaOSays
namespace Go.Proofs.Ytgppaclfgekknaa
theorem optGroupsUpto_holds : Rows.OptGroupsUptoSaid := Groups.proved says
end Go.Proofs.Ytgppaclfgekknaa
