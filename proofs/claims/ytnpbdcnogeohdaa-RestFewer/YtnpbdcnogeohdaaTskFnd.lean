/- What is looked for in a list of numbers by a function literal: slices.IndexFunc, slices.ContainsFunc; what a task needs. -/
import Derived.Test.YtnpbdcnogeohdaaTskUse
import Derived.Shelf.Abstract
namespace Go.Proofs.Ytnpbdcnogeohdaa.TK
open Go.ChangeShapes Go.WideShapes Go.ChangeAt Go.RowKit Go.Proofs.Ytnpbdcnogeohdaa.AR Go.Proofs.Ytnpbdcnogeohdaa.TB

/-! ### Needs -/

/-- does t need d? -/
def ndB (t : Tk) (d : Int) : Bool := anyB (fun x => x == d) t.dz t.dl

end Go.Proofs.Ytnpbdcnogeohdaa.TK
