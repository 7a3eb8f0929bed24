/- What devicesMayBe and sleepsMayBe answer. -/
import Derived.Test.YtbhgjaaaffjjeaaLev
namespace Go.Proofs.Ytbhgjaaaffjjeaa.TB
open Go.ChangeShapes Go.WideShapes Go.ChangeAt Go.RowKit Go.Proofs.Ytbhgjaaaffjjeaa.AR

end Go.Proofs.Ytbhgjaaaffjjeaa.TB
