/- The program's contracts of layer 9. -/
import Derived.Test.YtajeboigkpelgaaIpd
namespace Go.Proofs.Ytajeboigkpelgaa
end Go.Proofs.Ytajeboigkpelgaa
