/- The load of all tasks: the program's together, Load and Fits, and the document's Load, walked. -/
import Derived.Test.YtilafcplijgjjaaAdmRes
import Derived.Test.YtilafcplijgjjaaAdmCyc
namespace Go.Proofs.Ytilafcplijgjjaa.AD
open Go.ChangeShapes Go.WideShapes Go.ChangeAt Go.RowKit Go.Proofs.Ytilafcplijgjjaa.AR Go.Proofs.Ytilafcplijgjjaa.TB Go.Proofs.Ytilafcplijgjjaa.TK Go.Proofs.Ytilafcplijgjjaa.FX

/-- the sums fit -/
theorem sm_fit {m : Mc} (hb : Bd m) {L : List Tk} {zs : List Int} {lev : Int} {k len : Nat} (hc : Cy zs len) (hk : k ≤ len) (hl : len ≤ 64) : 0 ≤ sm m L zs lev k ∧ sm m L zs lev k ≤ 288371113640067072 := by
  have q := sm_bd hb (L := L) (zs := zs) (lev := lev) (k := k) (fun i hi => hc i (by omega))
  have : (k : Int) * 4505798650626048 ≤ 64 * 4505798650626048 := Int.mul_le_mul_of_nonneg_right (by omega) (by omega)
  omega

theorem run_min_same (ts : Array TypeId) (t : TypeId) (a : Int) (w : World) : (Builtin.min_ ts t #[.int .i64 a, .int .i64 a]).run Try.prog w = .ok (.int .i64 a) w := by
  simp [Builtin.min_, Builtin.min2]

theorem lod_eq {m : Mc} {L : List Tk} {lev : Int} {len : Nat} (h : L.length = len) : lod m L lev = rsv m L len + sm m L (cyc L) lev len := by subst h; rfl
theorem Gd.cy {m : Mc} {L : List Tk} (h : Gd m L) {len : Nat} (hl : L.length = len) : Cy (cyc L) len := by subst hl; exact cyc_cy h.t

/-- do they fit? -/
def fitB (m : Mc) (L : List Tk) : Bool := decide (lod m L 0 ≤ 4294967296)

end Go.Proofs.Ytilafcplijgjjaa.AD
