/- What each part of table.Check answers. -/
import Derived.Test.YtgdjdhkehgjgfaaMay
import Derived.OwnWalk
import Derived.StillTailTactics
namespace Go.Proofs.Ytgdjdhkehgjgfaa.TB
open Go.ChangeShapes Go.WideShapes Go.ChangeAt Go.RowKit Go.Proofs.Ytgdjdhkehgjgfaa.AR

end Go.Proofs.Ytgdjdhkehgjgfaa.TB
