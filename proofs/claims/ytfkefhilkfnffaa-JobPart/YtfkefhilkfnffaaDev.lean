/- What devicesMayBe and sleepsMayBe answer. -/
import Derived.Test.YtfkefhilkfnffaaLev
namespace Go.Proofs.Ytfkefhilkfnffaa.TB
open Go.ChangeShapes Go.WideShapes Go.ChangeAt Go.RowKit Go.Proofs.Ytfkefhilkfnffaa.AR

end Go.Proofs.Ytfkefhilkfnffaa.TB
