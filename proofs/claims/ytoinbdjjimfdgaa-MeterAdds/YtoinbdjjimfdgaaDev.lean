/- What devicesMayBe and sleepsMayBe answer. -/
import Derived.Test.YtoinbdjjimfdgaaLev
namespace Go.Proofs.Ytoinbdjjimfdgaa.TB
open Go.ChangeShapes Go.WideShapes Go.ChangeAt Go.RowKit Go.Proofs.Ytoinbdjjimfdgaa.AR

end Go.Proofs.Ytoinbdjjimfdgaa.TB
