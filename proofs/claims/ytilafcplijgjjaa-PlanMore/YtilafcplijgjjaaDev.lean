/- What devicesMayBe and sleepsMayBe answer. -/
import Derived.Test.YtilafcplijgjjaaLev
namespace Go.Proofs.Ytilafcplijgjjaa.TB
open Go.ChangeShapes Go.WideShapes Go.ChangeAt Go.RowKit Go.Proofs.Ytilafcplijgjjaa.AR

end Go.Proofs.Ytilafcplijgjjaa.TB
