/- What devicesMayBe and sleepsMayBe answer. -/
import Derived.Test.YtgecandbbmljbaaLev
namespace Go.Proofs.Ytgecandbbmljbaa.TB
open Go.ChangeShapes Go.WideShapes Go.ChangeAt Go.RowKit Go.Proofs.Ytgecandbbmljbaa.AR

end Go.Proofs.Ytgecandbbmljbaa.TB
