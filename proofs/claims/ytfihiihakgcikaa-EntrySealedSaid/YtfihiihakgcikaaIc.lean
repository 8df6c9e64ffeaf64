/- Contracts of the reference's AppendInt, AppendBytes, AppendBlock. -/
import Derived.Test.YtfihiihakgcikaaIb
import Derived.BigQuiet
import Derived.Lib.SliceRun
namespace Go.Proofs.Ytfihiihakgcikaa
open Go Go.RowKit
set_option linter.unusedVariables false
set_option linter.unusedSimpArgs false
end Go.Proofs.Ytfihiihakgcikaa
