/- How long jobs may be held up: the document's Block, walked. -/
import Derived.Test.YtaibpanceiapmaaAdmBlk
namespace Go.Proofs.Ytaibpanceiapmaa.AD
open Go.ChangeShapes Go.WideShapes Go.ChangeAt Go.RowKit Go.Proofs.Ytaibpanceiapmaa.AR Go.Proofs.Ytaibpanceiapmaa.TB Go.Proofs.Ytaibpanceiapmaa.TK Go.Proofs.Ytaibpanceiapmaa.FX

end Go.Proofs.Ytaibpanceiapmaa.AD
