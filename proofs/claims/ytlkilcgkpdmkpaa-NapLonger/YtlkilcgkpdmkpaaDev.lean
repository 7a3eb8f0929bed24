/- What devicesMayBe and sleepsMayBe answer. -/
import Derived.Test.YtlkilcgkpdmkpaaLev
namespace Go.Proofs.Ytlkilcgkpdmkpaa.TB
open Go.ChangeShapes Go.WideShapes Go.ChangeAt Go.RowKit Go.Proofs.Ytlkilcgkpdmkpaa.AR

end Go.Proofs.Ytlkilcgkpdmkpaa.TB
