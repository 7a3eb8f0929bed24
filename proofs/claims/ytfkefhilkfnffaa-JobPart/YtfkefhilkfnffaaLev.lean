/- What each part of table.Check answers. -/
import Derived.Test.YtfkefhilkfnffaaMay
import Derived.OwnWalk
import Derived.StillTailTactics
namespace Go.Proofs.Ytfkefhilkfnffaa.TB
open Go.ChangeShapes Go.WideShapes Go.ChangeAt Go.RowKit Go.Proofs.Ytfkefhilkfnffaa.AR

end Go.Proofs.Ytfkefhilkfnffaa.TB
