/- How long jobs may be held up: the program's Block and the document's own, walked. -/
import Derived.Test.YtnpbdcnogeohdaaAdmFun
import Derived.Test.YtnpbdcnogeohdaaTskCel
namespace Go.Proofs.Ytnpbdcnogeohdaa.AD
open Go.ChangeShapes Go.WideShapes Go.ChangeAt Go.RowKit Go.Proofs.Ytnpbdcnogeohdaa.AR Go.Proofs.Ytnpbdcnogeohdaa.TB Go.Proofs.Ytnpbdcnogeohdaa.TK Go.Proofs.Ytnpbdcnogeohdaa.FX

theorem pc_crit {m : Mc} (hb : Bd m) : pcI m m.crit = slw m := if_pos hb.cr

end Go.Proofs.Ytnpbdcnogeohdaa.AD
