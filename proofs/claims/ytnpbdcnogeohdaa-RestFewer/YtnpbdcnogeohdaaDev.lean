/- What devicesMayBe and sleepsMayBe answer. -/
import Derived.Test.YtnpbdcnogeohdaaLev
namespace Go.Proofs.Ytnpbdcnogeohdaa.TB
open Go.ChangeShapes Go.WideShapes Go.ChangeAt Go.RowKit Go.Proofs.Ytnpbdcnogeohdaa.AR

end Go.Proofs.Ytnpbdcnogeohdaa.TB
