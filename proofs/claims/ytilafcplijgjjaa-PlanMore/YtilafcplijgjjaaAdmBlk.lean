/- How long jobs may be held up: the program's Block and the document's own, walked. -/
import Derived.Test.YtilafcplijgjjaaAdmFun
import Derived.Test.YtilafcplijgjjaaTskCel
namespace Go.Proofs.Ytilafcplijgjjaa.AD
open Go.ChangeShapes Go.WideShapes Go.ChangeAt Go.RowKit Go.Proofs.Ytilafcplijgjjaa.AR Go.Proofs.Ytilafcplijgjjaa.TB Go.Proofs.Ytilafcplijgjjaa.TK Go.Proofs.Ytilafcplijgjjaa.FX

theorem pc_crit {m : Mc} (hb : Bd m) : pcI m m.crit = slw m := if_pos hb.cr

end Go.Proofs.Ytilafcplijgjjaa.AD
