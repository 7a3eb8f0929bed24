/- What each part of table.Check answers. -/
import Derived.Test.YtnpbdcnogeohdaaMay
import Derived.OwnWalk
import Derived.StillTailTactics
namespace Go.Proofs.Ytnpbdcnogeohdaa.TB
open Go.ChangeShapes Go.WideShapes Go.ChangeAt Go.RowKit Go.Proofs.Ytnpbdcnogeohdaa.AR

end Go.Proofs.Ytnpbdcnogeohdaa.TB
