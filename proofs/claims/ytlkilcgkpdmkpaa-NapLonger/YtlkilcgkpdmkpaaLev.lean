/- What each part of table.Check answers. -/
import Derived.Test.YtlkilcgkpdmkpaaMay
import Derived.OwnWalk
import Derived.StillTailTactics
namespace Go.Proofs.Ytlkilcgkpdmkpaa.TB
open Go.ChangeShapes Go.WideShapes Go.ChangeAt Go.RowKit Go.Proofs.Ytlkilcgkpdmkpaa.AR

end Go.Proofs.Ytlkilcgkpdmkpaa.TB
