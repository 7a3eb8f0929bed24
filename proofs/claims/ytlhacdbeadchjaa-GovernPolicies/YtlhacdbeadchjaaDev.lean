/- What devicesMayBe and sleepsMayBe answer. -/
import Derived.Test.YtlhacdbeadchjaaLev
namespace Go.Proofs.Ytlhacdbeadchjaa.TB
open Go.ChangeShapes Go.WideShapes Go.ChangeAt Go.RowKit Go.Proofs.Ytlhacdbeadchjaa.AR

end Go.Proofs.Ytlhacdbeadchjaa.TB
