/- What each function of package fix, and of the document's answer to it, returns, in whole numbers. -/
import Derived.Test.YtilafcplijgjjaaRows
import Derived.Test.YtilafcplijgjjaaFxPlain
import Derived.WalkKit
import Derived.ProofKit
import Derived.OpenShut
namespace Go.Proofs.Ytilafcplijgjjaa.FX
open Go.ChangeShapes Go.WideShapes Go.ChangeAt Go.RowKit Go.Proofs.Ytilafcplijgjjaa.FX

theorem ret_int {k : IntKind} {a b : Int} (h : a = b) : Ending.returned (.int k a) = .returned (.int k b) := by rw [h]

end Go.Proofs.Ytilafcplijgjjaa.FX
