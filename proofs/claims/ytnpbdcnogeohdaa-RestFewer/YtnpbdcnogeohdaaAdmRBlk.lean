/- How long jobs may be held up: the document's Block, walked. -/
import Derived.Test.YtnpbdcnogeohdaaAdmBlk
namespace Go.Proofs.Ytnpbdcnogeohdaa.AD
open Go.ChangeShapes Go.WideShapes Go.ChangeAt Go.RowKit Go.Proofs.Ytnpbdcnogeohdaa.AR Go.Proofs.Ytnpbdcnogeohdaa.TB Go.Proofs.Ytnpbdcnogeohdaa.TK Go.Proofs.Ytnpbdcnogeohdaa.FX

end Go.Proofs.Ytnpbdcnogeohdaa.AD
