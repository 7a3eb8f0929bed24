/- The load of any tasks, at any level, whether they fit, and the slowest level that would do. -/
import Derived.Test.YtgecandbbmljbaaAdmAns
import Derived.Test.YtgecandbbmljbaaAdmGood
import Derived.Test.YtgecandbbmljbaaAdmRSlo
namespace Go.Proofs.Ytgecandbbmljbaa.AD
open Go.ChangeShapes Go.WideShapes Go.ChangeAt Go.RowKit Go.Proofs.Ytgecandbbmljbaa.AR Go.Proofs.Ytgecandbbmljbaa.TB Go.Proofs.Ytgecandbbmljbaa.TK Go.Proofs.Ytgecandbbmljbaa.FX

set_option maxRecDepth 100000 in
set_option maxHeartbeats 8000000 in
theorem admitLoad_go (m : Mc) (ao : Option Addr) (len cap : Nat) (L : List Tk) (lev : Int) (w : World) (hm : m.At w) (h : LAt w ao len L) :
    Calls Try.prog 5 #[m.v, .slice ao len cap, .int .i64 lev] w fun e w' => e = .returned (.bool true) ∧ Below w.heap.size w w' := by
  have HE : Hid (∀ w', Kp w w' → Below w.heap.size w w') := fun w' q => q
  have HG : Hid (∀ W, Kp w W → Calls Try.prog 9 #[m.v, .slice ao len cap] W fun e w' => e = .returned (.bool (goodB m L)) ∧ Kp W w') := fun W k => good_any m ao len cap L W (hm.kept k) (h.kept k)
  have HD : Hid (goodB m L = true → Gd m L) := fun q => (good_t q).1
  have H1 : Hid (Gd m L → ∀ W, Kp w W → Calls Try.prog 18 #[m.v, .slice ao len cap, .int .i64 lev] W fun e w' => e = .returned (.int .i64 (lod m L lev)) ∧ Kp W w') := fun d W k => load_any m ao len cap L lev W (hm.kept k) (h.kept k) d
  have H2 : Hid (Gd m L → ∀ W, Kp w W → Calls Try.prog 19 #[m.v, .slice ao len cap, .int .i64 lev] W fun e w' => e = .returned (.int .i64 (lod m L lev)) ∧ Kp W w') := fun d W k => rload_any m ao len cap L lev W (hm.kept k) (h.kept k) d
  have H3 : Hid (Gd m L → ∀ W, Kp w W → Calls Try.prog 20 #[m.v, .slice ao len cap] W fun e w' => e = .returned (.bool (decide (lod m L 0 ≤ 4294967296))) ∧ Kp W w') := fun d W k => fits_any m ao len cap L W (hm.kept k) (h.kept k) d
  have H4 : Hid (Gd m L → ∀ W, Kp w W → Calls Try.prog 19 #[m.v, .slice ao len cap, .int .i64 0] W fun e w' => e = .returned (.int .i64 (lod m L 0)) ∧ Kp W w') := fun d W k => rload_any m ao len cap L 0 W (hm.kept k) (h.kept k) d
  have H5 : Hid (Gd m L → ∀ W, Kp w W → Calls Try.prog 21 #[m.v, .slice ao len cap] W fun e w' => e = .returned (.int .i64 (slo m L : Nat)) ∧ Kp W w') := fun d W k => slowest_any m ao len cap L W (hm.kept k) (h.kept k) d
  have H6 : Hid (Gd m L → ∀ W, Kp w W → Calls Try.prog 22 #[m.v, .slice ao len cap] W fun e w' => e = .returned (.int .i64 (slo m L : Nat)) ∧ Kp W w') := fun d W k => rslowest_any m ao len cap L W (hm.kept k) (h.kept k) d
  clear hm h
  obtain ⟨W0, HW, K0, P0⟩ := one_box w m
  have HP : Hid (∀ W, Kp W0 W → B9 W w.heap.size m) := fun W k => P0.kp k
  have HK : Hid (Kp w W0) := K0
  generalize goodB m L = gd at *
  generalize lod m L lev = x at *
  generalize lod m L 0 = y at *
  generalize slo m L = z at *
  obtain ⟨p0, p1, p2, p3, p4, p5, p6, p7, p8⟩ := P0.all
  unfold Mc.v at *
  clear P0 K0
  cases gd with
  | false =>
    go_enter Try.func5, Try.ntmps5
    go_wp2_with fail
    rw [← HW.out]
    refine (HG.out _ HK.out).mono ?_
    rintro e w1 ⟨rfl, k1⟩
    go_wp2_with fail
    refine (aanswers_any _).mono ?_
    rintro e w2 ⟨rfl, k2⟩
    go_wp2
    go_ret
    exact ⟨rfl, HE.out _ ((HK.out.trans k1).trans k2)⟩
  | true =>
    have d := HD.out rfl
    have H1' := H1.out d
    have H2' := H2.out d
    have H3' := H3.out d
    have H4' := H4.out d
    have H5' := H5.out d
    have H6' := H6.out d
    clear H1 H2 H3 H4 H5 H6 d HD
    have H1 : Hid _ := H1'
    have H2 : Hid _ := H2'
    have H3 : Hid _ := H3'
    have H4 : Hid _ := H4'
    have H5 : Hid _ := H5'
    have H6 : Hid _ := H6'
    clear H1' H2' H3' H4' H5' H6'
    go_enter Try.func5, Try.ntmps5
    try dsimp only [List.append]
    go_wp2_with fail
    rw [← HW.out]
    clear HW
    refine (HG.out _ HK.out).mono ?_
    rintro e w1 ⟨rfl, k1⟩
    have HK1 : Hid (Kp W0 w1) := k1
    clear k1 p0 p1 p2 p3 p4 p5 p6 p7 p8 HG
    obtain ⟨p0, p1, p2, p3, p4, p5, p6, p7, p8⟩ := (HP.out _ HK1.out).all
    go_wp2_with fail
    go_region_held3 (fun w' => w'.cell? ⟨w.heap.size, 0, none⟩ = some (.slice m.aL m.lL m.cL) ∧ w'.cell? ⟨w.heap.size, 1, none⟩ = some (.slice m.aS m.lS m.cS) ∧ w'.cell? ⟨w.heap.size, 2, none⟩ = some (.slice m.aD m.lD m.cD) ∧ w'.cell? ⟨w.heap.size, 3, none⟩ = some (.int .i64 m.idle) ∧ w'.cell? ⟨w.heap.size, 4, none⟩ = some (.int .i64 m.crit) ∧ w'.cell? ⟨w.heap.size, 5, none⟩ = some (.int .i64 m.sw) ∧ w'.cell? ⟨w.heap.size, 6, none⟩ = some (.int .i64 m.swe) ∧ w'.cell? ⟨w.heap.size, 7, none⟩ = some (.int .i64 m.sems) ∧ w'.cell? ⟨w.heap.size, 8, none⟩ = some (.int .i64 m.hor)) (go_keep) (first
      | (go_at_call 10; refine (aanswers_any _).mono ?_; rintro e w2 ⟨rfl, k2⟩; have K2 : Kp W0 w2 := HK1.out.trans (by first | exact (tkp_drew _).trans k2 | exact k2); clear k2; obtain ⟨z0, z1, z2, z3, z4, z5, z6, z7, z8⟩ := (HP.out _ K2).all)
      | (go_at_call 18; refine (H1.out _ (HK.out.trans K2)).mono ?_; rintro e w3 ⟨rfl, k3⟩; have K3 := K2.trans k3; clear k3; obtain ⟨z0, z1, z2, z3, z4, z5, z6, z7, z8⟩ := (HP.out _ K3).all)
      | (go_at_call 19; refine (H2.out _ (HK.out.trans K3)).mono ?_; rintro e w4 ⟨rfl, k4⟩; have K4 := K3.trans k4; clear k4 H2 K3; obtain ⟨z0, z1, z2, z3, z4, z5, z6, z7, z8⟩ := (HP.out _ K4).all)
      | (go_at_call 20; refine (H3.out _ (HK.out.trans K4)).mono ?_; rintro e w5 ⟨rfl, k5⟩; have K5 := K4.trans k5; clear k5; obtain ⟨z0, z1, z2, z3, z4, z5, z6, z7, z8⟩ := (HP.out _ K5).all)
      | (go_at_call 19; refine (H4.out _ (HK.out.trans K5)).mono ?_; rintro e w6 ⟨rfl, k6⟩; have K6 := K5.trans k6; clear k6; obtain ⟨z0, z1, z2, z3, z4, z5, z6, z7, z8⟩ := (HP.out _ K6).all)
      | (go_at_call 21; refine (H5.out _ (HK.out.trans K6)).mono ?_; rintro e w7 ⟨rfl, k7⟩; have K7 := K6.trans k7; clear k7; obtain ⟨z0, z1, z2, z3, z4, z5, z6, z7, z8⟩ := (HP.out _ K7).all)
      | (go_at_call 22; refine (H6.out _ (HK.out.trans K7)).mono ?_; rintro e w8 ⟨rfl, k8⟩; have K8 := K7.trans k8; clear k8; obtain ⟨z0, z1, z2, z3, z4, z5, z6, z7, z8⟩ := (HP.out _ K8).all)
      | fail)
    all_goals
      go_wp2
      go_ret
      exact ⟨by simp, HE.out _ (HK.out.trans K8)⟩

theorem admitLoad_walk (aL : Option Addr) (lL cL : Nat) (rL : List (List Int)) (aS : Option Addr) (lS cS : Nat) (rS : List (List Int)) (aD : Option Addr) (lD cD : Nat) (rD : List (List Int)) (idle crit sw swe sems hor : Int) (ao : Option Addr) (len cap : Nat) (L : List Tk) (lev : Int) (w : World)
    (hm : Mach w aL lL rL aS lS rS aD lD rD) (h : LAt w ao len L) (_ : len * 64 ≤ 140737488351232) (_ : (Lit.int .i64 lev).wf = true) :
    Calls Try.prog 5 #[pv aL lL cL aS lS cS aD lD cD idle crit sw swe sems hor, .slice ao len cap, .int .i64 lev] w fun e w' => e = .returned (.bool true) ∧ Below w.heap.size w w' :=
  admitLoad_go ⟨aL, lL, cL, rL, aS, lS, cS, rS, aD, lD, cD, rD, idle, crit, sw, swe, sems, hor⟩ ao len cap L lev w hm h

end Go.Proofs.Ytgecandbbmljbaa.AD
