/- Layer 13: the program's contracts. -/
import Derived.Test.YtffdmpicjhaniaaDoorFrj
import Derived.Test.YtffdmpicjhaniaaDoorFl
namespace Go.Proofs.YtffdmpicjhaniaaDoor
end Go.Proofs.YtffdmpicjhaniaaDoor
