/- What is kept in reserve: the program's Reserve and the document's own, walked. -/
import Derived.Test.YtnpbdcnogeohdaaAdmRBlk
namespace Go.Proofs.Ytnpbdcnogeohdaa.AD
open Go.ChangeShapes Go.WideShapes Go.ChangeAt Go.RowKit Go.Proofs.Ytnpbdcnogeohdaa.AR Go.Proofs.Ytnpbdcnogeohdaa.TB Go.Proofs.Ytnpbdcnogeohdaa.TK Go.Proofs.Ytnpbdcnogeohdaa.FX

end Go.Proofs.Ytnpbdcnogeohdaa.AD
