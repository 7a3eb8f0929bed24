/- Which tasks may be, on which machine. -/
import Derived.Test.YtgdjdhkehgjgfaaTskAns
import Derived.Test.YtgdjdhkehgjgfaaTbl
namespace Go.Proofs.Ytgdjdhkehgjgfaa.TK
open Go.ChangeShapes Go.WideShapes Go.ChangeAt Go.RowKit Go.Proofs.Ytgdjdhkehgjgfaa.AR Go.Proofs.Ytgdjdhkehgjgfaa.TB

theorem table_at (m : Mc) (w : World) (h : m.At w) : Calls Try.prog 8 #[m.v] w fun e w' => e = .returned (.bool m.may) ∧ Kp w w' :=
  reftable_any m.aL m.lL m.cL m.rL m.aS m.lS m.cS m.rS m.aD m.lD m.cD m.rD m.idle m.crit m.sw m.swe m.sems m.hor w h

set_option maxHeartbeats 8000000 in
theorem taskChecks_go (m : Mc) (t : Tk) (w : World) (hm : m.At w) (h : TAt w t) :
    Calls Try.prog 3 #[m.v, t.v] w fun e w' => e = .returned (.bool true) ∧ Below w.heap.size w w' := by
  have HE : Hid (∀ w', Kp w w' → Below w.heap.size w w') := fun w' q => q
  have HT : Hid (∀ W, Kp w W → Calls Try.prog 8 #[m.v] W fun e w' => e = .returned (.bool m.may) ∧ Kp W w') := fun W k => table_at m W (hm.kept k)
  have H1 : Hid (∀ W, Kp w W → Calls Try.prog 10 #[m.v, t.v] W fun e w' => e = .returned (.int .i64 (ckI m t)) ∧ Kp W w') := fun W k => tcheck_any m t W hm.nD (h.kept k)
  have H2 : Hid (∀ W, Kp w W → Calls Try.prog 11 #[m.v, t.v] W fun e w' => e = .returned (.bool (tkB m t)) ∧ Kp W w') := fun W k => rtask_any m t W (h.kept k)
  clear hm h
  obtain ⟨W0, HW, K0, P0, X0⟩ := two_box w m t
  have HP : Hid (∀ W, Kp W0 W → B9 W w.heap.size m) := fun W k => P0.kp k
  have HX : Hid (∀ W, Kp W0 W → TB4 W (w.heap.size + 1) t) := fun W k => X0.kp k
  unfold ckI at *
  generalize tkB m t = b at *
  generalize m.may = may at *
  unfold Mc.v Tk.v at *
  obtain ⟨p0, p1, p2, p3, p4, p5, p6, p7, p8⟩ := P0.all
  obtain ⟨x0, x1, x2, x3⟩ := X0.all
  clear P0 X0
  cases may with
  | false =>
    go_enter Try.func3, Try.ntmps3
    go_wp2_with fail
    rw [← HW.out]
    refine (HT.out _ K0).mono ?_
    rintro e w1 ⟨rfl, k1⟩
    go_wp2_with fail
    refine (tanswers_any _).mono ?_
    rintro e w2 ⟨rfl, k2⟩
    go_wp2
    go_ret
    exact ⟨rfl, HE.out _ ((K0.trans k1).trans k2)⟩
  | true =>
    cases b with
    | false =>
      simp only [cond_false] at H1
      go_enter Try.func3, Try.ntmps3
      go_wp2_with fail
      rw [← HW.out]
      refine (HT.out _ K0).mono ?_
      rintro e w1 ⟨rfl, k1⟩
      clear p0 p1 p2 p3 p4 p5 p6 p7 p8 x0 x1 x2 x3
      obtain ⟨p0, p1, p2, p3, p4, p5, p6, p7, p8⟩ := (HP.out _ k1).all
      obtain ⟨x0, x1, x2, x3⟩ := (HX.out _ k1).all
      go_wp2_with fail
      refine (H1.out _ (K0.trans k1)).mono ?_
      rintro e w2 ⟨rfl, k2⟩
      go_wp2_with fail
      refine (tanswers_any _).mono ?_
      rintro e w3 ⟨rfl, k3⟩
      have K3 := (k1.trans k2).trans k3
      clear k1 k2 k3 p0 p1 p2 p3 p4 p5 p6 p7 p8 x0 x1 x2 x3
      obtain ⟨p0, p1, p2, p3, p4, p5, p6, p7, p8⟩ := (HP.out _ K3).all
      obtain ⟨x0, x1, x2, x3⟩ := (HX.out _ K3).all
      go_wp2_with fail
      refine (H2.out _ (K0.trans K3)).mono ?_
      rintro e w4 ⟨rfl, k4⟩
      go_wp2
      go_ret
      exact ⟨rfl, HE.out _ ((K0.trans K3).trans k4)⟩
    | true =>
      simp only [cond_true] at H1
      go_enter Try.func3, Try.ntmps3
      go_wp2_with fail
      rw [← HW.out]
      refine (HT.out _ K0).mono ?_
      rintro e w1 ⟨rfl, k1⟩
      clear p0 p1 p2 p3 p4 p5 p6 p7 p8 x0 x1 x2 x3
      obtain ⟨p0, p1, p2, p3, p4, p5, p6, p7, p8⟩ := (HP.out _ k1).all
      obtain ⟨x0, x1, x2, x3⟩ := (HX.out _ k1).all
      go_wp2_with fail
      refine (H1.out _ (K0.trans k1)).mono ?_
      rintro e w2 ⟨rfl, k2⟩
      go_wp2_with fail
      refine (tanswers_any _).mono ?_
      rintro e w3 ⟨rfl, k3⟩
      have K3 := (k1.trans k2).trans k3
      clear k1 k2 k3 p0 p1 p2 p3 p4 p5 p6 p7 p8 x0 x1 x2 x3
      obtain ⟨p0, p1, p2, p3, p4, p5, p6, p7, p8⟩ := (HP.out _ K3).all
      obtain ⟨x0, x1, x2, x3⟩ := (HX.out _ K3).all
      go_wp2_with fail
      refine (H2.out _ (K0.trans K3)).mono ?_
      rintro e w4 ⟨rfl, k4⟩
      go_wp2
      go_ret
      exact ⟨rfl, HE.out _ ((K0.trans K3).trans k4)⟩

theorem taskChecks_walk (aL : Option Addr) (lL cL : Nat) (rL : List (List Int)) (aS : Option Addr) (lS cS : Nat) (rS : List (List Int)) (aD : Option Addr) (lD cD : Nat) (rD : List (List Int)) (idle crit sw swe sems hor : Int) (t : Tk) (w : World)
    (hm : Mach w aL lL rL aS lS rS aD lD rD) (h : TAt w t) :
    Calls Try.prog 3 #[pv aL lL cL aS lS cS aD lD cD idle crit sw swe sems hor, t.v] w fun e w' => e = .returned (.bool true) ∧ Below w.heap.size w w' :=
  taskChecks_go ⟨aL, lL, cL, rL, aS, lS, cS, rS, aD, lD, cD, rD, idle, crit, sw, swe, sems, hor⟩ t w hm h

end Go.Proofs.Ytgdjdhkehgjgfaa.TK
