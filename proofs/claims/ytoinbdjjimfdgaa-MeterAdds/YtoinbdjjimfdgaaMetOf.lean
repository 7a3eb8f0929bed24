/- What Of answers: what an interval costs. -/
import Derived.Test.YtoinbdjjimfdgaaMetAt
import Derived.Deep.RegionHeld3
import Derived.BigQuiet
namespace Go.Proofs.Ytoinbdjjimfdgaa.MT
open Go.ChangeShapes Go.WideShapes Go.ChangeAt Go.RowKit Go.Proofs.Ytoinbdjjimfdgaa.AR Go.Proofs.Ytoinbdjjimfdgaa.TB

/-- a machine's box and an interval's box beside what was there -/
structure PI (w W : World) (c0 c1 c2 : Value) (idle crit sw swe sems hor kind frm len arg task cyc : Int) : Prop where
  kp : Kp w W
  sz : w.heap.size + 1 < W.heap.size
  p0 : W.cell? ⟨w.heap.size, 0, none⟩ = some c0
  p1 : W.cell? ⟨w.heap.size, 1, none⟩ = some c1
  p2 : W.cell? ⟨w.heap.size, 2, none⟩ = some c2
  p3 : W.cell? ⟨w.heap.size, 3, none⟩ = some (.int .i64 idle)
  p4 : W.cell? ⟨w.heap.size, 4, none⟩ = some (.int .i64 crit)
  p5 : W.cell? ⟨w.heap.size, 5, none⟩ = some (.int .i64 sw)
  p6 : W.cell? ⟨w.heap.size, 6, none⟩ = some (.int .i64 swe)
  p7 : W.cell? ⟨w.heap.size, 7, none⟩ = some (.int .i64 sems)
  p8 : W.cell? ⟨w.heap.size, 8, none⟩ = some (.int .i64 hor)
  i0 : W.cell? ⟨w.heap.size + 1, 0, none⟩ = some (.int .i64 kind)
  i1 : W.cell? ⟨w.heap.size + 1, 1, none⟩ = some (.int .i64 frm)
  i2 : W.cell? ⟨w.heap.size + 1, 2, none⟩ = some (.int .i64 len)
  i3 : W.cell? ⟨w.heap.size + 1, 3, none⟩ = some (.int .i64 arg)
  i4 : W.cell? ⟨w.heap.size + 1, 4, none⟩ = some (.int .i64 task)
  i5 : W.cell? ⟨w.heap.size + 1, 5, none⟩ = some (.int .i64 cyc)

theorem PI.still {w W W' : World} {c0 c1 c2 : Value} {idle crit sw swe sems hor kind frm len arg task cyc : Int} (h : PI w W c0 c1 c2 idle crit sw swe sems hor kind frm len arg task cyc) (k : Kp W W') : PI w W' c0 c1 c2 idle crit sw swe sems hor kind frm len arg task cyc := by
  have q : ∀ b i, b ≤ w.heap.size + 1 → W'.cell? ⟨b, i, none⟩ = W.cell? ⟨b, i, none⟩ := fun b i hb => k.cell (Nat.lt_of_le_of_lt hb h.sz)
  exact ⟨h.kp.trans k, Nat.lt_of_lt_of_le h.sz k.size, (q _ _ (by omega)).trans h.p0, (q _ _ (by omega)).trans h.p1, (q _ _ (by omega)).trans h.p2, (q _ _ (by omega)).trans h.p3, (q _ _ (by omega)).trans h.p4, (q _ _ (by omega)).trans h.p5, (q _ _ (by omega)).trans h.p6, (q _ _ (by omega)).trans h.p7, (q _ _ (by omega)).trans h.p8,
    (q _ _ (by omega)).trans h.i0, (q _ _ (by omega)).trans h.i1, (q _ _ (by omega)).trans h.i2, (q _ _ (by omega)).trans h.i3, (q _ _ (by omega)).trans h.i4, (q _ _ (by omega)).trans h.i5⟩

theorem pi_new {w W : World} {c0 c1 c2 : Value} {idle crit sw swe sems hor kind frm len arg task cyc : Int}
    (e : W = (w.alloc (.cells #[c0, c1, c2, .int .i64 idle, .int .i64 crit, .int .i64 sw, .int .i64 swe, .int .i64 sems, .int .i64 hor] 26)).alloc (.cells #[.int .i64 kind, .int .i64 frm, .int .i64 len, .int .i64 arg, .int .i64 task, .int .i64 cyc] 28)) :
    PI w W c0 c1 c2 idle crit sw swe sems hor kind frm len arg task cyc := by
  subst e
  refine ⟨((Kp.refl w).alloc _).alloc _, by simp, ?_, ?_, ?_, ?_, ?_, ?_, ?_, ?_, ?_, ?_, ?_, ?_, ?_, ?_, ?_⟩ <;> simp

theorem wrap_i64 (x : Int) : IntKind.i64.wrap x = wrap64 x := IntWalk.i64_left x

theorem kp_drew (w : World) : Kp w w.drew := (Kp.refl w).drew

theorem field_lev1 (a b : Value) (w : World) : (Instr.field 47 (.agg #[a, b]) 1).run Try.prog w = .ok b w := by
  simp [Instr.field, asAgg, go_sem]

theorem field_slp (a b c d e f : Value) (w : World) : (Instr.field 50 (.agg #[a, b, c, d, e, f]) 0).run Try.prog w = .ok a w ∧ (Instr.field 50 (.agg #[a, b, c, d, e, f]) 3).run Try.prog w = .ok d w ∧ (Instr.field 50 (.agg #[a, b, c, d, e, f]) 4).run Try.prog w = .ok e w := by
  refine ⟨?_, ?_, ?_⟩ <;> simp [Instr.field, asAgg, go_sem]

set_option maxHeartbeats 8000000 in
theorem of_any (aL : Option Addr) (lL cL : Nat) (rL : List (List Int)) (aS : Option Addr) (lS cS : Nat) (rS : List (List Int)) (aD : Option Addr) (lD cD : Nat) (rD : List (List Int)) (idle crit sw swe sems hor : Int) (kind frm len arg task cyc : Int) (w : World)
    (h : Mach w aL lL rL aS lS rS aD lD rD) :
    Calls Try.prog 10 #[pv aL lL cL aS lS cS aD lD cD idle crit sw swe sems hor, iv kind frm len arg task cyc] w
      fun e w' => e = .returned (.int .i64 (cost lL rL lS rS idle swe kind len arg cyc)) ∧ Kp w w' := by
  have HL : Hid (∀ w', Kp w w' → Calls Try.prog 18 #[.slice aL lL cL, .int .i64 arg] w' fun e w'' => e = .returned (.agg #[.int .i64 (sel lL rL arg 0), .int .i64 (sel lL rL arg 1)]) ∧ Kp w' w'') := fun w' k => atlev_any aL lL cL rL arg w' (RecAt.kept h.lev k) h.nL
  have HS : Hid (∀ w', Kp w w' → Calls Try.prog 19 #[.slice aS lS cS, .int .i64 arg] w' fun e w'' => e = .returned (.agg #[.int .i64 (sel lS rS arg 0), .int .i64 (sel lS rS arg 1), .int .i64 (sel lS rS arg 2), .int .i64 (sel lS rS arg 3), .int .i64 (sel lS rS arg 4), .int .i64 (sel lS rS arg 5)]) ∧ Kp w' w'') := fun w' k => atslp_any aS lS cS rS arg w' (RecAt.kept h.slp k) h.nS
  obtain ⟨W0, HW⟩ : ∃ W0, Hid (W0 = (w.alloc (.cells #[.slice aL lL cL, .slice aS lS cS, .slice aD lD cD, .int .i64 idle, .int .i64 crit, .int .i64 sw, .int .i64 swe, .int .i64 sems, .int .i64 hor] 26)).alloc (.cells #[.int .i64 kind, .int .i64 frm, .int .i64 len, .int .i64 arg, .int .i64 task, .int .i64 cyc] 28)) := ⟨_, rfl⟩
  have Y := pi_new HW.out
  have HK : Hid (Kp w W0) := Y.kp
  unfold pv iv
  have F1 := field_lev1
  have F2 := fun a b c d e f w => (field_slp a b c d e f w).1
  have F3 := fun a b c d e f w => (field_slp a b c d e f w).2.1
  have F4 := fun a b c d e f w => (field_slp a b c d e f w).2.2
  by_cases c1 : kind = 1
  · subst c1
    have HR : Hid (wrap64 (cyc * sel lL rL arg 1) = cost lL rL lS rS idle swe 1 len arg cyc) := rfl
    generalize cost lL rL lS rS idle swe 1 len arg cyc = res at *
    go_enter Try.func10, Try.ntmps10
    go_wp2_with fail
    rw [← HW.out]
    have d0 := Y.p0
    have d1 := Y.i3
    have d2 := Y.i5
    go_region_held3 (fun w' => w'.cell? ⟨w.heap.size, 0, none⟩ = some (.slice aL lL cL) ∧ w'.cell? ⟨w.heap.size + 1, 3, none⟩ = some (.int .i64 arg) ∧ w'.cell? ⟨w.heap.size + 1, 5, none⟩ = some (.int .i64 cyc)) (go_keep) (first
      | (go_at_call 18; refine (HL.out _ ?_).mono ?_; first | exact HK.out | exact HK.out.trans (kp_drew _); rintro e w3 ⟨rfl, k3⟩; have K3 : Kp W0 w3 := (by first | exact (kp_drew _).trans k3 | exact k3); clear k3; have Y3 := Y.still K3; have z0 := Y3.p0; have z1 := Y3.i3; have z2 := Y3.i5)
      | fail)
    all_goals
      clear z0 z1 z2
      go_wp2
      go_ret
      exact ⟨congrArg (fun b => Ending.returned (Value.int .i64 b)) ((wrap_i64 _).trans HR.out), HK.out.trans K3⟩
  by_cases c2 : kind = 2
  · subst c2
    have HR : Hid (wrap64 (len * idle) = cost lL rL lS rS idle swe 2 len arg cyc) := rfl
    generalize cost lL rL lS rS idle swe 2 len arg cyc = res at *
    go_enter Try.func10, Try.ntmps10
    go_wp2_with fail
    rw [← HW.out]
    go_ret
    exact ⟨congrArg (fun b => Ending.returned (Value.int .i64 b)) HR.out, HK.out⟩
  by_cases c3 : kind = 3
  · subst c3
    have HR : Hid (swe = cost lL rL lS rS idle swe 3 len arg cyc) := rfl
    generalize cost lL rL lS rS idle swe 3 len arg cyc = res at *
    go_enter Try.func10, Try.ntmps10
    go_wp2_with fail
    rw [← HW.out]
    go_ret
    exact ⟨congrArg (fun b => Ending.returned (Value.int .i64 b)) HR.out, HK.out⟩
  by_cases c4 : kind = 4
  · subst c4
    have HR : Hid (sel lS rS arg 3 = cost lL rL lS rS idle swe 4 len arg cyc) := rfl
    generalize cost lL rL lS rS idle swe 4 len arg cyc = res at *
    go_enter Try.func10, Try.ntmps10
    go_wp2_with fail
    rw [← HW.out]
    refine (HS.out _ HK.out).mono ?_
    rintro e w3 ⟨rfl, k3⟩
    go_wp2
    go_ret
    exact ⟨congrArg (fun b => Ending.returned (Value.int .i64 b)) HR.out, HK.out.trans k3⟩
  by_cases c5 : kind = 5
  · subst c5
    have HR : Hid (wrap64 (len * sel lS rS arg 0) = cost lL rL lS rS idle swe 5 len arg cyc) := rfl
    generalize cost lL rL lS rS idle swe 5 len arg cyc = res at *
    go_enter Try.func10, Try.ntmps10
    go_wp2_with fail
    rw [← HW.out]
    have d0 := Y.p1
    have d1 := Y.i3
    have d2 := Y.i2
    go_region_held3 (fun w' => w'.cell? ⟨w.heap.size, 1, none⟩ = some (.slice aS lS cS) ∧ w'.cell? ⟨w.heap.size + 1, 3, none⟩ = some (.int .i64 arg) ∧ w'.cell? ⟨w.heap.size + 1, 2, none⟩ = some (.int .i64 len)) (go_keep) (first
      | (go_at_call 19; refine (HS.out _ ?_).mono ?_; first | exact HK.out | exact HK.out.trans (kp_drew _); rintro e w3 ⟨rfl, k3⟩; have K3 : Kp W0 w3 := (by first | exact (kp_drew _).trans k3 | exact k3); clear k3; have Y3 := Y.still K3; have z0 := Y3.p1; have z1 := Y3.i3; have z2 := Y3.i2)
      | fail)
    all_goals
      clear z0 z1 z2
      go_wp2
      go_ret
      exact ⟨congrArg (fun b => Ending.returned (Value.int .i64 b)) ((wrap_i64 _).trans HR.out), HK.out.trans K3⟩
  by_cases c6 : kind = 6
  · subst c6
    have HR : Hid (sel lS rS arg 4 = cost lL rL lS rS idle swe 6 len arg cyc) := rfl
    generalize cost lL rL lS rS idle swe 6 len arg cyc = res at *
    go_enter Try.func10, Try.ntmps10
    go_wp2_with fail
    rw [← HW.out]
    refine (HS.out _ HK.out).mono ?_
    rintro e w3 ⟨rfl, k3⟩
    go_wp2
    go_ret
    exact ⟨congrArg (fun b => Ending.returned (Value.int .i64 b)) HR.out, HK.out.trans k3⟩
  have HR : Hid (0 = cost lL rL lS rS idle swe kind len arg cyc) := by show 0 = _; unfold cost; rw [if_neg c1, if_neg c2, if_neg c3, if_neg c4, if_neg c5, if_neg c6]
  generalize cost lL rL lS rS idle swe kind len arg cyc = res at *
  go_enter Try.func10, Try.ntmps10
  go_wp2
  rw [← HW.out]
  go_ret
  exact ⟨congrArg (fun b => Ending.returned (Value.int .i64 b)) HR.out, HK.out⟩

end Go.Proofs.Ytoinbdjjimfdgaa.MT
