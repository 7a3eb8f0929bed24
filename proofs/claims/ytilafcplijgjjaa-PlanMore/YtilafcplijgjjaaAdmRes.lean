/- What is kept in reserve: the program's Reserve and the document's own, walked. -/
import Derived.Test.YtilafcplijgjjaaAdmRBlk
namespace Go.Proofs.Ytilafcplijgjjaa.AD
open Go.ChangeShapes Go.WideShapes Go.ChangeAt Go.RowKit Go.Proofs.Ytilafcplijgjjaa.AR Go.Proofs.Ytilafcplijgjjaa.TB Go.Proofs.Ytilafcplijgjjaa.TK Go.Proofs.Ytilafcplijgjjaa.FX

end Go.Proofs.Ytilafcplijgjjaa.AD
