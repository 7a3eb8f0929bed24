/- What each part of table.Check answers. -/
import Derived.Test.YtilafcplijgjjaaMay
import Derived.OwnWalk
import Derived.StillTailTactics
namespace Go.Proofs.Ytilafcplijgjjaa.TB
open Go.ChangeShapes Go.WideShapes Go.ChangeAt Go.RowKit Go.Proofs.Ytilafcplijgjjaa.AR

end Go.Proofs.Ytilafcplijgjjaa.TB
