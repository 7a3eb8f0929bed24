/- What a job is at first, and behind one cycle more: the program's, walked. -/
import Derived.Test.YtilafcplijgjjaaJobAt
import Derived.Test.YtilafcplijgjjaaTskAt
import Derived.OwnWalk
import Derived.BigRegion
import Derived.BigQuiet
import Derived.StillTailTactics
import Derived.Deep.RegionHeld3
namespace Go.Proofs.Ytilafcplijgjjaa.JB
open Go.ChangeShapes Go.WideShapes Go.ChangeAt Go.RowKit Go.Proofs.Ytilafcplijgjjaa.AR Go.Proofs.Ytilafcplijgjjaa.TB Go.Proofs.Ytilafcplijgjjaa.TK

theorem eqJ' (n : Nat) (j : Jb) (w : World) : (Op.equalIn (n + 1 + 1) 41 j.v j.v).run Try.prog w = .ok true w := by
  have q : ∀ x w, (Op.equalIn (n + 1) 3 (.int .i64 x) (.int .i64 x)).run Try.prog w = .ok true w := fun x w => jint_eq n x w
  have qb : ∀ b w, (Op.equalIn (n + 1) 4 (.bool b) (.bool b)).run Try.prog w = .ok true w := fun b w => by rw [run_equalIn_bool w n 4 b b Try.underlying4]; simp
  unfold Jb.v
  rw [Op.equalIn]
  generalize hE : Op.equalIn (n + 1) = E at *
  simp only [Sem.run_bind, run_underlying Try.underlying41, Result.andThen_ok]
  simp [go_sem, part, q, qb]

/-- two jobs that are the same are '==' -/
theorem eqJ (j : Jb) (w : World) : (Op.equalIn 10000 41 j.v j.v).run Try.prog w = .ok true w := eqJ' 9998 j w

/-- a job at first -/
def nwJ (n : Int) (t : Tk) (rel cyc : Int) : Jb := ⟨n, rel, wrap64 (rel + t.p), t.c, cyc, false⟩
/-- a job behind one cycle more -/
def stJ (j : Jb) : Jb := ⟨j.t, j.r, j.d, wrap64 (j.l - 1), wrap64 (j.x - 1), j.s⟩
/-- how it has ended -/
def enI (j : Jb) : Int := if j.x ≤ 0 then 2 else if j.l ≤ 0 then 3 else 0

theorem nwJ_in {n : Int} {t : Tk} {rel cyc : Int} (h : -9223372036854775808 ≤ rel + t.p ∧ rel + t.p ≤ 9223372036854775807) : nwJ n t rel cyc = ⟨n, rel, rel + t.p, t.c, cyc, false⟩ := by
  unfold nwJ; rw [IntWalk.wrap64_in _ (by omega)]
theorem stJ_in {j : Jb} (h : -9223372036854775808 ≤ j.l - 1 ∧ j.l - 1 ≤ 9223372036854775807) (k : -9223372036854775808 ≤ j.x - 1 ∧ j.x - 1 ≤ 9223372036854775807) : stJ j = ⟨j.t, j.r, j.d, j.l - 1, j.x - 1, j.s⟩ := by
  unfold stJ; rw [IntWalk.wrap64_in _ (by omega), IntWalk.wrap64_in _ (by omega)]

theorem kp_drew (w : World) : Kp w w.drew := (Kp.refl w).drew

/-- a task's box, and a job's, nothing in it -/
theorem task_job (w : World) (t : Tk) (j : Jb) : ∃ W0, Hid (W0 = (w.alloc (.cells #[.int .i64 t.p, .int .i64 t.c, .slice t.sa t.sl t.sc, .slice t.da t.dl t.dc] 39)).alloc (.cells #[.int .i64 j.t, .int .i64 j.r, .int .i64 j.d, .int .i64 j.l, .int .i64 j.x, .bool j.s] 41)) ∧ Kp w W0 ∧ BJ W0 (w.heap.size + 1) j := by
  refine ⟨_, rfl, ((Kp.refl _).alloc _).alloc _, ?_⟩
  have := bj_new (w.alloc (.cells #[.int .i64 t.p, .int .i64 t.c, .slice t.sa t.sl t.sc, .slice t.da t.dl t.dc] 39)) j
  rw [World.size_alloc] at this
  exact this

/-- two jobs' boxes -/
theorem two_jobs (w : World) (j i : Jb) : ∃ W0, Hid (W0 = (w.alloc (.cells #[.int .i64 j.t, .int .i64 j.r, .int .i64 j.d, .int .i64 j.l, .int .i64 j.x, .bool j.s] 41)).alloc (.cells #[.int .i64 i.t, .int .i64 i.r, .int .i64 i.d, .int .i64 i.l, .int .i64 i.x, .bool i.s] 41)) ∧ Kp w W0 ∧ BJ W0 w.heap.size j ∧ BJ W0 (w.heap.size + 1) i := by
  refine ⟨_, rfl, ((Kp.refl _).alloc _).alloc _, (bj_new w j).kp ((Kp.refl _).alloc _), ?_⟩
  have := bj_new (w.alloc (.cells #[.int .i64 j.t, .int .i64 j.r, .int .i64 j.d, .int .i64 j.l, .int .i64 j.x, .bool j.s] 41)) i
  rw [World.size_alloc] at this
  exact this

/-- the switches that it may ask for yet -/
def swI (j : Jb) : Int := if j.s = true then 1 else 2

end Go.Proofs.Ytilafcplijgjjaa.JB
