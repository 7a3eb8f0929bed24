/- What each part of table.Check answers. -/
import Derived.Test.YtlhacdbeadchjaaMay
import Derived.OwnWalk
import Derived.StillTailTactics
namespace Go.Proofs.Ytlhacdbeadchjaa.TB
open Go.ChangeShapes Go.WideShapes Go.ChangeAt Go.RowKit Go.Proofs.Ytlhacdbeadchjaa.AR

end Go.Proofs.Ytlhacdbeadchjaa.TB
