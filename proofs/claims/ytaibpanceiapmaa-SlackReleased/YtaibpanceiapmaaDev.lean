/- What devicesMayBe and sleepsMayBe answer. -/
import Derived.Test.YtaibpanceiapmaaLev
namespace Go.Proofs.Ytaibpanceiapmaa.TB
open Go.ChangeShapes Go.WideShapes Go.ChangeAt Go.RowKit Go.Proofs.Ytaibpanceiapmaa.AR

end Go.Proofs.Ytaibpanceiapmaa.TB
