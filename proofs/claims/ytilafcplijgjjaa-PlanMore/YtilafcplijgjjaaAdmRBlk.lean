/- How long jobs may be held up: the document's Block, walked. -/
import Derived.Test.YtilafcplijgjjaaAdmBlk
namespace Go.Proofs.Ytilafcplijgjjaa.AD
open Go.ChangeShapes Go.WideShapes Go.ChangeAt Go.RowKit Go.Proofs.Ytilafcplijgjjaa.AR Go.Proofs.Ytilafcplijgjjaa.TB Go.Proofs.Ytilafcplijgjjaa.TK Go.Proofs.Ytilafcplijgjjaa.FX

end Go.Proofs.Ytilafcplijgjjaa.AD
