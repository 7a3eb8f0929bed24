/- What each part of table.Check answers. -/
import Derived.Test.YtoinbdjjimfdgaaMay
import Derived.OwnWalk
import Derived.StillTailTactics
namespace Go.Proofs.Ytoinbdjjimfdgaa.TB
open Go.ChangeShapes Go.WideShapes Go.ChangeAt Go.RowKit Go.Proofs.Ytoinbdjjimfdgaa.AR

end Go.Proofs.Ytoinbdjjimfdgaa.TB
