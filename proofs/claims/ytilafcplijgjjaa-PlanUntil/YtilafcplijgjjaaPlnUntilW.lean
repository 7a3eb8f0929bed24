/- Till when a device is not needed, in any view. -/
import Derived.Test.YtilafcplijgjjaaPlnLaw
namespace Go.Proofs.Ytilafcplijgjjaa.PN
open Go.ChangeShapes Go.WideShapes Go.ChangeAt Go.RowKit Go.Proofs.Ytilafcplijgjjaa.AR Go.Proofs.Ytilafcplijgjjaa.TB Go.Proofs.Ytilafcplijgjjaa.TK Go.Proofs.Ytilafcplijgjjaa.JB Go.Proofs.Ytilafcplijgjjaa.FX Go.Proofs.Ytilafcplijgjjaa.AD Go.Proofs.Ytilafcplijgjjaa.SK
open Go.Proofs.Ytilafcplijgjjaa.LK (Hd atH HsAt C3)

set_option maxRecDepth 100000 in
set_option maxHeartbeats 16000000 in
theorem planUntil_walk (v : Vw) (a d : Int) (w : World) (hv : VL w v) (_ : I64 v.now) (_ : I64 a) (_ : (Lit.int .i64 d).wf = true) :
    Calls Try.prog 3 #[v.rv a, .int .i64 d] w fun e w' => e = .returned (.bool true) ∧ Below w.heap.size w w' := by
  have HE : Hid (∀ w', Kp w w' → Below w.heap.size w w') := fun w' q => q
  obtain ⟨W0, HW, K0, P0⟩ := rview_box w v a
  have HP : Hid (∀ W, Kp W0 W → B15 W w.heap.size v a) := fun W k => P0.kp k
  have HK : Hid (Kp w W0) := K0
  have HG : Hid (Calls Try.prog 6 #[v.rv a] W0 fun e w' => e = .returned (.bool (goodV v a)) ∧ Kp W0 w') := good_any v a W0 (hv.kept K0)
  have HA : Hid (goodV v a = true → ∀ W, Kp W0 W → Calls Try.prog 8 #[.slice v.ta v.tl v.tc, .slice v.na v.nl v.nc, .slice v.ja v.jl v.jc, .int .i64 d, .int .i64 v.now] W fun e w' => e = .returned (.int .i64 (untI v d)) ∧ Kp W w') := fun g W q => until_any v d W (ul_of (hv.kept (K0.trans q)) (good_vg hv g).1)
  have HB : Hid (goodV v a = true → ∀ W, Kp W0 W → Calls Try.prog 9 #[.slice v.ta v.tl v.tc, .slice v.na v.nl v.nc, .slice v.ja v.jl v.jc, .int .i64 d, .int .i64 v.now] W fun e w' => e = .returned (.int .i64 (untI v d)) ∧ Kp W w') := fun g W q => runtil_any v d W (ul_of (hv.kept (K0.trans q)) (good_vg hv g).1) (fun j hj => ((good_vg hv g).1.jb j hj).1) (good_nd hv g d)
  generalize untI v d = res at *
  obtain ⟨p0, p1, p2, p3, p4, p5, p6, p7, p8, p9, p10, p11, p12, p13, p14⟩ := P0.all
  generalize goodV v a = gd at *
  unfold Vw.rv at *
  clear K0 P0 hv
  go_enter Try.func3, Try.ntmps3
  cases gd with
  | false =>
    go_wp2_with fail
    rw [← HW.out]
    refine Calls.mono HG.out ?_
    rintro e w1 ⟨rfl, k1⟩
    go_wp2_with fail
    refine (ganswers_any _).mono ?_
    rintro e w2 ⟨rfl, k2⟩
    go_wp2
    go_ret
    exact ⟨rfl, HE.out _ ((HK.out.trans k1).trans k2)⟩
  | true =>
    have HA' : Hid _ := HA.out rfl
    have HB' : Hid _ := HB.out rfl
    clear HA HB
    go_wp2_with fail
    rw [← HW.out]
    refine Calls.mono HG.out ?_
    rintro e w1 ⟨rfl, k1⟩
    have HK1 : Hid (Kp W0 w1) := k1
    clear p0 p1 p2 p3 p4 p5 p6 p7 p8 p9 p10 p11 p12 p13 p14 k1 HG
    obtain ⟨p0, p1, p2, p3, p4, p5, p6, p7, p8, p9, p10, p11, p12, p13, p14⟩ := (HP.out _ HK1.out).all
    go_wp2_with fail
    go_region_held3 (fun w' => w'.cell? ⟨w.heap.size, 0, none⟩ = some (.slice v.m.aL v.m.lL v.m.cL) ∧ w'.cell? ⟨w.heap.size, 1, none⟩ = some (.slice v.m.aS v.m.lS v.m.cS) ∧ w'.cell? ⟨w.heap.size, 2, none⟩ = some (.slice v.m.aD v.m.lD v.m.cD) ∧ w'.cell? ⟨w.heap.size, 3, none⟩ = some (.int .i64 v.m.idle) ∧ w'.cell? ⟨w.heap.size, 4, none⟩ = some (.int .i64 v.m.crit) ∧ w'.cell? ⟨w.heap.size, 5, none⟩ = some (.int .i64 v.m.sw) ∧ w'.cell? ⟨w.heap.size, 6, none⟩ = some (.int .i64 v.m.swe) ∧ w'.cell? ⟨w.heap.size, 7, none⟩ = some (.int .i64 v.m.sems) ∧ w'.cell? ⟨w.heap.size, 8, none⟩ = some (.int .i64 v.m.hor) ∧ w'.cell? ⟨w.heap.size, 9, none⟩ = some (.slice v.ta v.tl v.tc) ∧ w'.cell? ⟨w.heap.size, 10, none⟩ = some (.slice v.na v.nl v.nc) ∧ w'.cell? ⟨w.heap.size, 11, none⟩ = some (.slice v.ja v.jl v.jc) ∧ w'.cell? ⟨w.heap.size, 12, none⟩ = some (.slice v.ha v.hl v.hc) ∧ w'.cell? ⟨w.heap.size, 13, none⟩ = some (.int .i64 v.now) ∧ w'.cell? ⟨w.heap.size, 14, none⟩ = some (.int .i64 a)) (go_keep) (first
      | (go_at_call 7; refine (ganswers_any _).mono ?_; rintro e w2 ⟨rfl, k2⟩; have K2 : Kp W0 w2 := HK1.out.trans (by first | exact (TB.kp_drew _).trans k2 | exact k2); clear k2; obtain ⟨z0, z1, z2, z3, z4, z5, z6, z7, z8, z9, z10, z11, z12, z13, z14⟩ := (HP.out _ K2).all)
      | (go_at_call 8; refine (HA'.out _ K2).mono ?_; rintro e w3 ⟨rfl, k3⟩; have K3 : Kp W0 w3 := K2.trans k3; clear k3; obtain ⟨z0, z1, z2, z3, z4, z5, z6, z7, z8, z9, z10, z11, z12, z13, z14⟩ := (HP.out _ K3).all)
      | (go_at_call 9; refine (HB'.out _ K3).mono ?_; rintro e w4 ⟨rfl, k4⟩; have K9 := K3.trans k4; clear k4; obtain ⟨z0, z1, z2, z3, z4, z5, z6, z7, z8, z9, z10, z11, z12, z13, z14⟩ := (HP.out _ K9).all)
      | fail)
    all_goals
      go_wp2
      go_ret
      exact ⟨by simp, HE.out _ (HK.out.trans K9)⟩

end Go.Proofs.Ytilafcplijgjjaa.PN
