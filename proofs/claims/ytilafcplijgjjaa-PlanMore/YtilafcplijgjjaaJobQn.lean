/- What a job may take yet: the program's and the document's own, walked. -/
import Derived.Test.YtilafcplijgjjaaJobAns
import Derived.Test.YtilafcplijgjjaaAdmFun
namespace Go.Proofs.Ytilafcplijgjjaa.JB
open Go.ChangeShapes Go.WideShapes Go.ChangeAt Go.RowKit Go.Proofs.Ytilafcplijgjjaa.AR Go.Proofs.Ytilafcplijgjjaa.TB Go.Proofs.Ytilafcplijgjjaa.TK Go.Proofs.Ytilafcplijgjjaa.FX Go.Proofs.Ytilafcplijgjjaa.AD

/-- what it may take yet -/
def jqI (m : Mc) (j : Jb) : Int := mx 0 j.l * fd m.rL 0 0 + swI j * m.sw

theorem mx_zero (a : Int) : mx a 0 = mx 0 a := by
  by_cases h : a < 0
  · rw [mx_lt h, mx_ge (by omega)]
  · by_cases h2 : 0 < a
    · rw [mx_ge (by omega), mx_lt h2]
    · obtain rfl : a = 0 := by omega
      rfl

theorem lf_bd {a : Int} (h : a ≤ 1073741824) : 0 ≤ mx 0 a ∧ mx 0 a ≤ 1073741824 := by
  by_cases h2 : 0 < a
  · rw [mx_lt h2]; omega
  · rw [mx_ge h2]; omega

/-- a machine's box and a job's -/
theorem mach_job (w : World) (m : Mc) (j : Jb) : ∃ W0, Hid (W0 = (w.alloc (.cells #[.slice m.aL m.lL m.cL, .slice m.aS m.lS m.cS, .slice m.aD m.lD m.cD, .int .i64 m.idle, .int .i64 m.crit, .int .i64 m.sw, .int .i64 m.swe, .int .i64 m.sems, .int .i64 m.hor] 26)).alloc (.cells #[.int .i64 j.t, .int .i64 j.r, .int .i64 j.d, .int .i64 j.l, .int .i64 j.x, .bool j.s] 41)) ∧ Kp w W0 ∧ B9 W0 w.heap.size m ∧ BJ W0 (w.heap.size + 1) j := by
  refine ⟨_, rfl, ((Kp.refl _).alloc _).alloc _, (b9_new w m).kp ((Kp.refl _).alloc _), ?_⟩
  have := bj_new (w.alloc (.cells #[.slice m.aL m.lL m.cL, .slice m.aS m.lS m.cS, .slice m.aD m.lD m.cD, .int .i64 m.idle, .int .i64 m.crit, .int .i64 m.sw, .int .i64 m.swe, .int .i64 m.sems, .int .i64 m.hor] 26)) j
  rw [World.size_alloc] at this
  exact this

end Go.Proofs.Ytilafcplijgjjaa.JB
