/- What devicesMayBe and sleepsMayBe answer. -/
import Derived.Test.YtgdjdhkehgjgfaaLev
namespace Go.Proofs.Ytgdjdhkehgjgfaa.TB
open Go.ChangeShapes Go.WideShapes Go.ChangeAt Go.RowKit Go.Proofs.Ytgdjdhkehgjgfaa.AR

end Go.Proofs.Ytgdjdhkehgjgfaa.TB
