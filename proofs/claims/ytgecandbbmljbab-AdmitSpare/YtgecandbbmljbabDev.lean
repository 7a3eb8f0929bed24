/- What devicesMayBe and sleepsMayBe answer. -/
import Derived.Test.YtgecandbbmljbabLev
namespace Go.Proofs.Ytgecandbbmljbab.TB
open Go.ChangeShapes Go.WideShapes Go.ChangeAt Go.RowKit Go.Proofs.Ytgecandbbmljbab.AR

end Go.Proofs.Ytgecandbbmljbab.TB
