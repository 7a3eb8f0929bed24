/- What each part of table.Check answers. -/
import Derived.Test.YtaibpanceiapmaaMay
import Derived.OwnWalk
import Derived.StillTailTactics
namespace Go.Proofs.Ytaibpanceiapmaa.TB
open Go.ChangeShapes Go.WideShapes Go.ChangeAt Go.RowKit Go.Proofs.Ytaibpanceiapmaa.AR

end Go.Proofs.Ytaibpanceiapmaa.TB
