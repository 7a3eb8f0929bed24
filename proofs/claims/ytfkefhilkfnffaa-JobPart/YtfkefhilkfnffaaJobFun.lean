/- What a job is at first, and behind one cycle more: the program's, walked. -/
import Derived.Test.YtfkefhilkfnffaaJobAt
import Derived.Test.YtfkefhilkfnffaaTskAt
import Derived.OwnWalk
import Derived.BigRegion
import Derived.BigQuiet
import Derived.StillTailTactics
import Derived.Deep.RegionHeld3
namespace Go.Proofs.Ytfkefhilkfnffaa.JB
open Go.ChangeShapes Go.WideShapes Go.ChangeAt Go.RowKit Go.Proofs.Ytfkefhilkfnffaa.AR Go.Proofs.Ytfkefhilkfnffaa.TB Go.Proofs.Ytfkefhilkfnffaa.TK

theorem eqJ' (n : Nat) (j : Jb) (w : World) : (Op.equalIn (n + 1 + 1) 28 j.v j.v).run Try.prog w = .ok true w := by
  have q : ∀ x w, (Op.equalIn (n + 1) 3 (.int .i64 x) (.int .i64 x)).run Try.prog w = .ok true w := fun x w => jint_eq n x w
  have qb : ∀ b w, (Op.equalIn (n + 1) 4 (.bool b) (.bool b)).run Try.prog w = .ok true w := fun b w => by rw [run_equalIn_bool w n 4 b b Try.underlying4]; simp
  unfold Jb.v
  rw [Op.equalIn]
  generalize hE : Op.equalIn (n + 1) = E at *
  simp only [Sem.run_bind, run_underlying Try.underlying28, Result.andThen_ok]
  simp [go_sem, part, q, qb]

/-- two jobs that are the same are '==' -/
theorem eqJ (j : Jb) (w : World) : (Op.equalIn 10000 28 j.v j.v).run Try.prog w = .ok true w := eqJ' 9998 j w

/-- a job at first -/
def nwJ (n : Int) (t : Tk) (rel cyc : Int) : Jb := ⟨n, rel, wrap64 (rel + t.p), t.c, cyc, false⟩
/-- a job behind one cycle more -/
def stJ (j : Jb) : Jb := ⟨j.t, j.r, j.d, wrap64 (j.l - 1), wrap64 (j.x - 1), j.s⟩
/-- how it has ended -/
def enI (j : Jb) : Int := if j.x ≤ 0 then 2 else if j.l ≤ 0 then 3 else 0

theorem nwJ_in {n : Int} {t : Tk} {rel cyc : Int} (h : -9223372036854775808 ≤ rel + t.p ∧ rel + t.p ≤ 9223372036854775807) : nwJ n t rel cyc = ⟨n, rel, rel + t.p, t.c, cyc, false⟩ := by
  unfold nwJ; rw [IntWalk.wrap64_in _ (by omega)]
theorem stJ_in {j : Jb} (h : -9223372036854775808 ≤ j.l - 1 ∧ j.l - 1 ≤ 9223372036854775807) (k : -9223372036854775808 ≤ j.x - 1 ∧ j.x - 1 ≤ 9223372036854775807) : stJ j = ⟨j.t, j.r, j.d, j.l - 1, j.x - 1, j.s⟩ := by
  unfold stJ; rw [IntWalk.wrap64_in _ (by omega), IntWalk.wrap64_in _ (by omega)]

theorem kp_drew (w : World) : Kp w w.drew := (Kp.refl w).drew

theorem results_new (tmps : Array Value) (w : World) (g : Nat) (j : Jb) (hp : tmps[8]?.getD undef = .pointer (some ⟨g, 0, none⟩)) (h : BJ w g j) :
    (results Try.f10 tmps).run Try.prog w = .ok j.v w := by
  obtain ⟨z0, z1, z2, z3, z4, z5⟩ := h.all
  simp [results, Try.results10, go_sem, hp, z0, z1, z2, z3, z4, z5, Jb.v]

theorem results_step (tmps : Array Value) (w : World) (g : Nat) (j : Jb) (n : Int) (hp : tmps[2]?.getD undef = .pointer (some ⟨g, 0, none⟩)) (hq : tmps[3]?.getD undef = .int .i64 n) (h : BJ w g j) :
    (results Try.f11 tmps).run Try.prog w = .ok (.tuple #[j.v, .int .i64 n]) w := by
  obtain ⟨z0, z1, z2, z3, z4, z5⟩ := h.all
  simp [results, Try.results11, go_sem, hp, hq, z0, z1, z2, z3, z4, z5, Jb.v]

/-- a task's box, and a job's, nothing in it -/
theorem task_job (w : World) (t : Tk) (j : Jb) : ∃ W0, Hid (W0 = (w.alloc (.cells #[.int .i64 t.p, .int .i64 t.c, .slice t.sa t.sl t.sc, .slice t.da t.dl t.dc] 24)).alloc (.cells #[.int .i64 j.t, .int .i64 j.r, .int .i64 j.d, .int .i64 j.l, .int .i64 j.x, .bool j.s] 28)) ∧ Kp w W0 ∧ BJ W0 (w.heap.size + 1) j := by
  refine ⟨_, rfl, ((Kp.refl _).alloc _).alloc _, ?_⟩
  have := bj_new (w.alloc (.cells #[.int .i64 t.p, .int .i64 t.c, .slice t.sa t.sl t.sc, .slice t.da t.dl t.dc] 24)) j
  rw [World.size_alloc] at this
  exact this

set_option maxHeartbeats 4000000 in
theorem new_any (n : Int) (t : Tk) (rel cyc : Int) (w : World) :
    Calls Try.prog 10 #[.int .i64 n, t.v, .int .i64 rel, .int .i64 cyc] w fun e w' => e = .returned (nwJ n t rel cyc).v ∧ Kp w w' := by
  obtain ⟨W1, H1, K1, J1⟩ := task_job w t (nwJ n t rel cyc)
  have e := H1.out
  clear H1
  subst e
  unfold Tk.v
  go_enter Try.func10, Try.ntmps10
  go_wp2
  exact bodyPost_ret (results_new _ _ (w.heap.size + 1) (nwJ n t rel cyc) rfl J1) rfl ⟨rfl, K1⟩

theorem ended_any (j : Jb) (w : World) :
    Calls Try.prog 17 #[j.v] w fun e w' => e = .returned (.int .i64 (enI j)) ∧ Kp w w' := by
  unfold Jb.v enI
  by_cases h1 : j.x ≤ 0
  · rw [if_pos h1]
    go_enter Try.func17, Try.ntmps17
    go_wp2
    go_ret
    exact ⟨rfl, (Kp.refl _).alloc _⟩
  · rw [if_neg h1]
    by_cases h2 : j.l ≤ 0
    · rw [if_pos h2]
      go_enter Try.func17, Try.ntmps17
      go_wp2
      go_ret
      exact ⟨rfl, (Kp.refl _).alloc _⟩
    · rw [if_neg h2]
      go_enter Try.func17, Try.ntmps17
      go_wp2
      go_ret
      exact ⟨rfl, (Kp.refl _).alloc _⟩

/-- two jobs' boxes -/
theorem two_jobs (w : World) (j i : Jb) : ∃ W0, Hid (W0 = (w.alloc (.cells #[.int .i64 j.t, .int .i64 j.r, .int .i64 j.d, .int .i64 j.l, .int .i64 j.x, .bool j.s] 28)).alloc (.cells #[.int .i64 i.t, .int .i64 i.r, .int .i64 i.d, .int .i64 i.l, .int .i64 i.x, .bool i.s] 28)) ∧ Kp w W0 ∧ BJ W0 w.heap.size j ∧ BJ W0 (w.heap.size + 1) i := by
  refine ⟨_, rfl, ((Kp.refl _).alloc _).alloc _, (bj_new w j).kp ((Kp.refl _).alloc _), ?_⟩
  have := bj_new (w.alloc (.cells #[.int .i64 j.t, .int .i64 j.r, .int .i64 j.d, .int .i64 j.l, .int .i64 j.x, .bool j.s] 28)) i
  rw [World.size_alloc] at this
  exact this

set_option maxHeartbeats 4000000 in
theorem step_any (j : Jb) (w : World) :
    Calls Try.prog 11 #[j.v] w fun e w' => e = .returned (.tuple #[(stJ j).v, .int .i64 (enI (stJ j))]) ∧ Kp w w' := by
  obtain ⟨W0, HW, K0, J0, I0⟩ := two_jobs w (stJ j) ⟨0, 0, 0, 0, 0, false⟩
  have HC : Hid (∀ W, Calls Try.prog 17 #[.agg #[.int .i64 (stJ j).t, .int .i64 (stJ j).r, .int .i64 (stJ j).d, .int .i64 (stJ j).l, .int .i64 (stJ j).x, .bool (stJ j).s]] W fun e w' => e = .returned (.int .i64 (enI (stJ j))) ∧ Kp W w') := fun W => ended_any (stJ j) W
  have HJ : Hid (∀ W, Kp W0 W → BJ W w.heap.size (stJ j)) := fun W k => J0.kp k
  have HI : Hid (∀ W, Kp W0 W → BJ W (w.heap.size + 1) ⟨0, 0, 0, 0, 0, false⟩) := fun W k => I0.kp k
  obtain ⟨p0, p1, p2, p3, p4, p5⟩ := J0.all
  have HK : Hid (Kp w W0) := K0
  clear J0 I0 K0
  generalize hn : enI (stJ j) = n at *
  clear hn
  unfold Jb.v
  dsimp only [stJ] at *
  go_enter Try.func11, Try.ntmps11
  go_wp2_with fail
  rw [← HW.out]
  clear HW
  go_region_held3 (fun w' => w'.cell? ⟨w.heap.size, 0, none⟩ = some (.int .i64 j.t) ∧ w'.cell? ⟨w.heap.size, 1, none⟩ = some (.int .i64 j.r) ∧ w'.cell? ⟨w.heap.size, 2, none⟩ = some (.int .i64 j.d) ∧ w'.cell? ⟨w.heap.size, 3, none⟩ = some (.int .i64 (wrap64 (j.l - 1))) ∧ w'.cell? ⟨w.heap.size, 4, none⟩ = some (.int .i64 (wrap64 (j.x - 1))) ∧ w'.cell? ⟨w.heap.size, 5, none⟩ = some (.bool j.s)) (go_keep) (first
    | (go_at_call 17; refine (HC.out _).mono ?_; rintro e w3 ⟨rfl, k3⟩; have K3 : Kp W0 w3 := (by first | exact (kp_drew _).trans k3 | exact k3); clear k3; obtain ⟨z0, z1, z2, z3, z4, z5⟩ := (HJ.out _ K3).all; have I3 := HI.out _ K3; obtain ⟨i0, i1, i2, i3, i4, i5⟩ := I3.all; have f0 := I3.fr 0; have f1 := I3.fr 1; have f2 := I3.fr 2; have f3 := I3.fr 3; have f4 := I3.fr 4; have f5 := I3.fr 5; have lt3 := I3.lt; clear I3)
    | fail)
  all_goals
    go_wp2
    exact bodyPost_ret (results_step _ _ (w.heap.size + 1) ⟨j.t, j.r, j.d, wrap64 (j.l - 1), wrap64 (j.x - 1), j.s⟩ n rfl rfl (by first | exact (HI.out _ K3).setAll ⟨j.t, j.r, j.d, wrap64 (j.l - 1), wrap64 (j.x - 1), j.s⟩ | exact ((HI.out _ K3).setAll ⟨j.t, j.r, j.d, wrap64 (j.l - 1), wrap64 (j.x - 1), j.s⟩).kp (kp_drew _))) rfl ⟨rfl, by first | exact kp_setJ (HK.out.trans K3) (Nat.le_succ _) ⟨j.t, j.r, j.d, wrap64 (j.l - 1), wrap64 (j.x - 1), j.s⟩ | exact (kp_setJ (HK.out.trans K3) (Nat.le_succ _) ⟨j.t, j.r, j.d, wrap64 (j.l - 1), wrap64 (j.x - 1), j.s⟩).drew⟩

/-- the switches that it may ask for yet -/
def swI (j : Jb) : Int := if j.s = true then 1 else 2

theorem switches_any (j : Jb) (w : World) :
    Calls Try.prog 20 #[j.v] w fun e w' => e = .returned (.int .i64 (swI j)) ∧ Kp w w' := by
  obtain ⟨t, r, d, l, x, s⟩ := j
  unfold Jb.v swI
  cases s
  all_goals
    go_enter Try.func20, Try.ntmps20
    go_wp2
    go_ret
    exact ⟨rfl, (Kp.refl _).alloc _⟩

end Go.Proofs.Ytfkefhilkfnffaa.JB
