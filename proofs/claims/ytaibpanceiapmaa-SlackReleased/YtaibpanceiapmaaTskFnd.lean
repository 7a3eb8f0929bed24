/- What is looked for in a list of numbers by a function literal: slices.IndexFunc, slices.ContainsFunc; what a task needs. -/
import Derived.Test.YtaibpanceiapmaaTskUse
import Derived.Shelf.Abstract
namespace Go.Proofs.Ytaibpanceiapmaa.TK
open Go.ChangeShapes Go.WideShapes Go.ChangeAt Go.RowKit Go.Proofs.Ytaibpanceiapmaa.AR Go.Proofs.Ytaibpanceiapmaa.TB

/-! ### Needs -/

/-- does t need d? -/
def ndB (t : Tk) (d : Int) : Bool := anyB (fun x => x == d) t.dz t.dl

end Go.Proofs.Ytaibpanceiapmaa.TK
