/- What each part of table.Check answers. -/
import Derived.Test.YtgecandbbmljbaaMay
import Derived.OwnWalk
import Derived.StillTailTactics
namespace Go.Proofs.Ytgecandbbmljbaa.TB
open Go.ChangeShapes Go.WideShapes Go.ChangeAt Go.RowKit Go.Proofs.Ytgecandbbmljbaa.AR

end Go.Proofs.Ytgecandbbmljbaa.TB
