/- What the document's Energy answers: what an interval costs. -/
import Derived.Test.YtoinbdjjimfdgaaMetOf
namespace Go.Proofs.Ytoinbdjjimfdgaa.MT
open Go.ChangeShapes Go.WideShapes Go.ChangeAt Go.RowKit Go.Proofs.Ytoinbdjjimfdgaa.AR Go.Proofs.Ytoinbdjjimfdgaa.TB

theorem cost_other {lL : Nat} {rL : List (List Int)} {lS : Nat} {rS : List (List Int)} {idle swe kind len arg cyc : Int} (c1 : ¬ kind = 1) (c2 : ¬ kind = 2) (c3 : ¬ kind = 3) (c4 : ¬ kind = 4) (c5 : ¬ kind = 5) (c6 : ¬ kind = 6) : 0 = cost lL rL lS rS idle swe kind len arg cyc := by
  unfold cost; rw [if_neg c1, if_neg c2, if_neg c3, if_neg c4, if_neg c5, if_neg c6]

/-- an Arg that is a number of a list, or none -/
theorem arg_cases (arg : Int) (n : Nat) : (arg < 0) ∨ (0 ≤ arg ∧ (n : Int) ≤ arg) ∨ ∃ k : Nat, arg = k ∧ k < n := by
  by_cases h : arg < 0
  · exact .inl h
  · by_cases h1 : (n : Int) ≤ arg
    · exact .inr (.inl ⟨by omega, h1⟩)
    · exact .inr (.inr ⟨arg.toNat, by omega, by omega⟩)

set_option maxHeartbeats 8000000 in
theorem energy_any (aL : Option Addr) (lL cL : Nat) (rL : List (List Int)) (aS : Option Addr) (lS cS : Nat) (rS : List (List Int)) (aD : Option Addr) (lD cD : Nat) (rD : List (List Int)) (idle crit sw swe sems hor : Int) (kind frm len arg task cyc : Int) (w : World)
    (h : Mach w aL lL rL aS lS rS aD lD rD) :
    Calls Try.prog 11 #[pv aL lL cL aS lS cS aD lD cD idle crit sw swe sems hor, iv kind frm len arg task cyc] w
      fun e w' => e = .returned (.int .i64 (cost lL rL lS rS idle swe kind len arg cyc)) ∧ Kp w w' := by
  obtain ⟨W0, HW⟩ : ∃ W0, Hid (W0 = (w.alloc (.cells #[.slice aL lL cL, .slice aS lS cS, .slice aD lD cD, .int .i64 idle, .int .i64 crit, .int .i64 sw, .int .i64 swe, .int .i64 sems, .int .i64 hor] 26)).alloc (.cells #[.int .i64 kind, .int .i64 frm, .int .i64 len, .int .i64 arg, .int .i64 task, .int .i64 cyc] 28)) := ⟨_, rfl⟩
  have Y := pi_new HW.out
  have HK : Hid (Kp w W0) := Y.kp
  unfold pv iv
  by_cases c1 : kind = 1
  · subst c1
    have HQ : Hid (wrap64 (cyc * sel lL rL arg 1) = cost lL rL lS rS idle swe 1 len arg cyc) := rfl
    generalize cost lL rL lS rS idle swe 1 len arg cyc = res at *
    rcases arg_cases arg lL with l0 | ⟨l0, l1⟩ | ⟨k, rfl, lk⟩
    · have HR : Hid (0 = res) := by show 0 = _; rw [← HQ.out, sel_out (.inl l0)]; simp [wrap64]
      have l0' : ¬ 0 ≤ arg := by omega
      go_enter Try.func11, Try.ntmps11
      go_wp2_with fail
      rw [← HW.out]
      go_ret
      exact ⟨congrArg (fun b => Ending.returned (Value.int .i64 b)) HR.out, HK.out⟩
    · have HR : Hid (0 = res) := by show 0 = _; rw [← HQ.out, sel_out (.inr l1)]; simp [wrap64]
      have l1' : ¬ arg < (lL : Int) := by omega
      by_cases s1 : arg < (lS : Int)
      · go_enter Try.func11, Try.ntmps11
        go_wp2_with fail
        rw [← HW.out]
        go_ret
        exact ⟨congrArg (fun b => Ending.returned (Value.int .i64 b)) HR.out, HK.out⟩
      · go_enter Try.func11, Try.ntmps11
        go_wp2_with fail
        rw [← HW.out]
        go_ret
        exact ⟨congrArg (fun b => Ending.returned (Value.int .i64 b)) HR.out, HK.out⟩
    · have HR : Hid (wrap64 (cyc * fd rL k 1) = res) := by show _ = _; rw [← HQ.out, sel_in (by omega) (by omega)]; rfl
      have lk' : (k : Int) < (lL : Int) := by omega
      have lk0 : (0 : Int) ≤ (k : Int) := by omega
      obtain ⟨b, off, rfl, hb, hc⟩ := fd_at h.lev lk Y.kp
      have e1 := hc 1 (by omega)
      clear hc
      by_cases s1 : (k : Int) < (lS : Int)
      · go_enter Try.func11, Try.ntmps11
        go_wp2_with fail
        rw [← HW.out]
        have d0 := Y.p0
        have d1 := Y.i3
        have d2 := Y.i5
        go_quiet (fail)
        go_wp2
        go_ret
        exact ⟨congrArg (fun b => Ending.returned (Value.int .i64 b)) HR.out, HK.out.trans (kp_drewN _ _)⟩
      · go_enter Try.func11, Try.ntmps11
        go_wp2_with fail
        rw [← HW.out]
        have d0 := Y.p0
        have d1 := Y.i3
        have d2 := Y.i5
        go_quiet (fail)
        go_wp2
        go_ret
        exact ⟨congrArg (fun b => Ending.returned (Value.int .i64 b)) HR.out, HK.out.trans (kp_drewN _ _)⟩
  rcases arg_cases arg lS with s0 | ⟨s0, s1⟩ | ⟨k, rfl, sk⟩
  · have s0' : ¬ 0 ≤ arg := by omega
    by_cases c2 : kind = 2
    · subst c2
      have HR : Hid (wrap64 (len * idle) = cost lL rL lS rS idle swe 2 len arg cyc) := rfl
      generalize cost lL rL lS rS idle swe 2 len arg cyc = res at *
      go_enter Try.func11, Try.ntmps11
      go_wp2_with fail
      rw [← HW.out]
      go_ret
      exact ⟨congrArg (fun b => Ending.returned (Value.int .i64 b)) HR.out, HK.out⟩
    by_cases c3 : kind = 3
    · subst c3
      have HR : Hid (swe = cost lL rL lS rS idle swe 3 len arg cyc) := rfl
      generalize cost lL rL lS rS idle swe 3 len arg cyc = res at *
      go_enter Try.func11, Try.ntmps11
      go_wp2_with fail
      rw [← HW.out]
      go_ret
      exact ⟨congrArg (fun b => Ending.returned (Value.int .i64 b)) HR.out, HK.out⟩
    by_cases c4 : kind = 4
    · subst c4
      have HR : Hid (0 = cost lL rL lS rS idle swe 4 len arg cyc) := by show 0 = sel lS rS arg 3; rw [sel_out (.inl s0)]
      generalize cost lL rL lS rS idle swe 4 len arg cyc = res at *
      go_enter Try.func11, Try.ntmps11
      go_wp2_with fail
      rw [← HW.out]
      go_ret
      exact ⟨congrArg (fun b => Ending.returned (Value.int .i64 b)) HR.out, HK.out⟩
    by_cases c5 : kind = 5
    · subst c5
      have HR : Hid (0 = cost lL rL lS rS idle swe 5 len arg cyc) := by show 0 = wrap64 (len * sel lS rS arg 0); rw [sel_out (.inl s0)]; simp [wrap64]
      generalize cost lL rL lS rS idle swe 5 len arg cyc = res at *
      go_enter Try.func11, Try.ntmps11
      go_wp2_with fail
      rw [← HW.out]
      go_ret
      exact ⟨congrArg (fun b => Ending.returned (Value.int .i64 b)) HR.out, HK.out⟩
    by_cases c6 : kind = 6
    · subst c6
      have HR : Hid (0 = cost lL rL lS rS idle swe 6 len arg cyc) := by show 0 = sel lS rS arg 4; rw [sel_out (.inl s0)]
      generalize cost lL rL lS rS idle swe 6 len arg cyc = res at *
      go_enter Try.func11, Try.ntmps11
      go_wp2_with fail
      rw [← HW.out]
      go_ret
      exact ⟨congrArg (fun b => Ending.returned (Value.int .i64 b)) HR.out, HK.out⟩
    have HR : Hid (0 = cost lL rL lS rS idle swe kind len arg cyc) := cost_other c1 c2 c3 c4 c5 c6
    generalize cost lL rL lS rS idle swe kind len arg cyc = res at *
    go_enter Try.func11, Try.ntmps11
    go_wp2_with fail
    rw [← HW.out]
    go_ret
    exact ⟨congrArg (fun b => Ending.returned (Value.int .i64 b)) HR.out, HK.out⟩
  · have s1' : ¬ arg < (lS : Int) := by omega
    by_cases c2 : kind = 2
    · subst c2
      have HR : Hid (wrap64 (len * idle) = cost lL rL lS rS idle swe 2 len arg cyc) := rfl
      generalize cost lL rL lS rS idle swe 2 len arg cyc = res at *
      go_enter Try.func11, Try.ntmps11
      go_wp2_with fail
      rw [← HW.out]
      go_ret
      exact ⟨congrArg (fun b => Ending.returned (Value.int .i64 b)) HR.out, HK.out⟩
    by_cases c3 : kind = 3
    · subst c3
      have HR : Hid (swe = cost lL rL lS rS idle swe 3 len arg cyc) := rfl
      generalize cost lL rL lS rS idle swe 3 len arg cyc = res at *
      go_enter Try.func11, Try.ntmps11
      go_wp2_with fail
      rw [← HW.out]
      go_ret
      exact ⟨congrArg (fun b => Ending.returned (Value.int .i64 b)) HR.out, HK.out⟩
    by_cases c4 : kind = 4
    · subst c4
      have HR : Hid (0 = cost lL rL lS rS idle swe 4 len arg cyc) := by show 0 = sel lS rS arg 3; rw [sel_out (.inr s1)]
      generalize cost lL rL lS rS idle swe 4 len arg cyc = res at *
      go_enter Try.func11, Try.ntmps11
      go_wp2_with fail
      rw [← HW.out]
      go_ret
      exact ⟨congrArg (fun b => Ending.returned (Value.int .i64 b)) HR.out, HK.out⟩
    by_cases c5 : kind = 5
    · subst c5
      have HR : Hid (0 = cost lL rL lS rS idle swe 5 len arg cyc) := by show 0 = wrap64 (len * sel lS rS arg 0); rw [sel_out (.inr s1)]; simp [wrap64]
      generalize cost lL rL lS rS idle swe 5 len arg cyc = res at *
      go_enter Try.func11, Try.ntmps11
      go_wp2_with fail
      rw [← HW.out]
      go_ret
      exact ⟨congrArg (fun b => Ending.returned (Value.int .i64 b)) HR.out, HK.out⟩
    by_cases c6 : kind = 6
    · subst c6
      have HR : Hid (0 = cost lL rL lS rS idle swe 6 len arg cyc) := by show 0 = sel lS rS arg 4; rw [sel_out (.inr s1)]
      generalize cost lL rL lS rS idle swe 6 len arg cyc = res at *
      go_enter Try.func11, Try.ntmps11
      go_wp2_with fail
      rw [← HW.out]
      go_ret
      exact ⟨congrArg (fun b => Ending.returned (Value.int .i64 b)) HR.out, HK.out⟩
    have HR : Hid (0 = cost lL rL lS rS idle swe kind len arg cyc) := cost_other c1 c2 c3 c4 c5 c6
    generalize cost lL rL lS rS idle swe kind len arg cyc = res at *
    go_enter Try.func11, Try.ntmps11
    go_wp2_with fail
    rw [← HW.out]
    go_ret
    exact ⟨congrArg (fun b => Ending.returned (Value.int .i64 b)) HR.out, HK.out⟩
  · have sk' : (k : Int) < (lS : Int) := by omega
    have sk0 : (0 : Int) ≤ (k : Int) := by omega
    by_cases c2 : kind = 2
    · subst c2
      have HR : Hid (wrap64 (len * idle) = cost lL rL lS rS idle swe 2 len (k : Int) cyc) := rfl
      generalize cost lL rL lS rS idle swe 2 len (k : Int) cyc = res at *
      go_enter Try.func11, Try.ntmps11
      go_wp2_with fail
      rw [← HW.out]
      go_ret
      exact ⟨congrArg (fun b => Ending.returned (Value.int .i64 b)) HR.out, HK.out⟩
    by_cases c3 : kind = 3
    · subst c3
      have HR : Hid (swe = cost lL rL lS rS idle swe 3 len (k : Int) cyc) := rfl
      generalize cost lL rL lS rS idle swe 3 len (k : Int) cyc = res at *
      go_enter Try.func11, Try.ntmps11
      go_wp2_with fail
      rw [← HW.out]
      go_ret
      exact ⟨congrArg (fun b => Ending.returned (Value.int .i64 b)) HR.out, HK.out⟩
    by_cases c4 : kind = 4
    · subst c4
      have HR : Hid (fd rS k 3 = cost lL rL lS rS idle swe 4 len (k : Int) cyc) := by show fd rS k 3 = sel lS rS (k : Int) 3; rw [sel_in (by omega) (by omega)]; rfl
      generalize cost lL rL lS rS idle swe 4 len (k : Int) cyc = res at *
      obtain ⟨b, off, rfl, hb, hc⟩ := fd_at h.slp sk (Kp.refl w)
      have e3 := hc 3 (by omega)
      clear hc
      go_enter Try.func11, Try.ntmps11
      go_wp2_with fail
      rw [← HW.out]
      go_ret
      exact ⟨congrArg (fun b => Ending.returned (Value.int .i64 b)) HR.out, HK.out⟩
    by_cases c5 : kind = 5
    · subst c5
      have HR : Hid (wrap64 (len * fd rS k 0) = cost lL rL lS rS idle swe 5 len (k : Int) cyc) := by show wrap64 (len * fd rS k 0) = wrap64 (len * sel lS rS (k : Int) 0); rw [sel_in (by omega) (by omega)]; rfl
      generalize cost lL rL lS rS idle swe 5 len (k : Int) cyc = res at *
      obtain ⟨b, off, rfl, hb, hc⟩ := fd_at h.slp sk Y.kp
      have e0 := hc 0 (by omega)
      clear hc
      simp only [Nat.add_zero] at e0
      go_enter Try.func11, Try.ntmps11
      go_wp2_with fail
      rw [← HW.out]
      have d0 := Y.p1
      have d1 := Y.i3
      have d2 := Y.i2
      go_quiet (fail)
      go_wp2
      go_ret
      exact ⟨congrArg (fun b => Ending.returned (Value.int .i64 b)) HR.out, HK.out.trans (kp_drewN _ _)⟩
    by_cases c6 : kind = 6
    · subst c6
      have HR : Hid (fd rS k 4 = cost lL rL lS rS idle swe 6 len (k : Int) cyc) := by show fd rS k 4 = sel lS rS (k : Int) 4; rw [sel_in (by omega) (by omega)]; rfl
      generalize cost lL rL lS rS idle swe 6 len (k : Int) cyc = res at *
      obtain ⟨b, off, rfl, hb, hc⟩ := fd_at h.slp sk (Kp.refl w)
      have e4 := hc 4 (by omega)
      clear hc
      go_enter Try.func11, Try.ntmps11
      go_wp2_with fail
      rw [← HW.out]
      go_ret
      exact ⟨congrArg (fun b => Ending.returned (Value.int .i64 b)) HR.out, HK.out⟩
    have HR : Hid (0 = cost lL rL lS rS idle swe kind len (k : Int) cyc) := cost_other c1 c2 c3 c4 c5 c6
    generalize cost lL rL lS rS idle swe kind len (k : Int) cyc = res at *
    go_enter Try.func11, Try.ntmps11
    go_wp2_with fail
    rw [← HW.out]
    go_ret
    exact ⟨congrArg (fun b => Ending.returned (Value.int .i64 b)) HR.out, HK.out⟩

end Go.Proofs.Ytoinbdjjimfdgaa.MT
