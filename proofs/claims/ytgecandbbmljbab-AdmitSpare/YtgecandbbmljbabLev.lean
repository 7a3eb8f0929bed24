/- What each part of table.Check answers. -/
import Derived.Test.YtgecandbbmljbabMay
import Derived.OwnWalk
import Derived.StillTailTactics
namespace Go.Proofs.Ytgecandbbmljbab.TB
open Go.ChangeShapes Go.WideShapes Go.ChangeAt Go.RowKit Go.Proofs.Ytgecandbbmljbab.AR

end Go.Proofs.Ytgecandbbmljbab.TB
