/- What each part of table.Check answers. -/
import Derived.Test.YtbhgjaaaffjjeaaMay
import Derived.OwnWalk
import Derived.StillTailTactics
namespace Go.Proofs.Ytbhgjaaaffjjeaa.TB
open Go.ChangeShapes Go.WideShapes Go.ChangeAt Go.RowKit Go.Proofs.Ytbhgjaaaffjjeaa.AR

end Go.Proofs.Ytbhgjaaaffjjeaa.TB
