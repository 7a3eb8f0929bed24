/- How much there is at least. -/
import Derived.Test.YtaibpanceiapmaaSlkGoodW
namespace Go.Proofs.Ytaibpanceiapmaa.SK
open Go.ChangeShapes Go.WideShapes Go.ChangeAt Go.RowKit Go.Proofs.Ytaibpanceiapmaa.AR Go.Proofs.Ytaibpanceiapmaa.TB Go.Proofs.Ytaibpanceiapmaa.TK Go.Proofs.Ytaibpanceiapmaa.JB Go.Proofs.Ytaibpanceiapmaa.FX Go.Proofs.Ytaibpanceiapmaa.AD
open Go.Proofs.Ytaibpanceiapmaa.LK (Hd atH HsAt C3)

set_option maxRecDepth 100000 in
set_option maxHeartbeats 16000000 in
theorem slackLeast_walk (v : Vw) (a : Int) (w : World) (hv : VL w v) (_ : I64 v.now) (_ : I64 a) :
    Calls Try.prog 5 #[v.rv a] w fun e w' => e = .returned (.bool true) ∧ Below w.heap.size w w' := by
  have HE : Hid (∀ w', Kp w w' → Below w.heap.size w w') := fun w' q => q
  obtain ⟨W0, HW, K0, P0⟩ := rview_box w v a
  have HP : Hid (∀ W, Kp W0 W → B15 W w.heap.size v a) := fun W k => P0.kp k
  have HK : Hid (Kp w W0) := K0
  have HG : Hid (Calls Try.prog 9 #[v.rv a] W0 fun e w' => e = .returned (.bool (goodV v a)) ∧ Kp W0 w') := good_any v a W0 (hv.kept K0)
  have HD : Hid (goodV v a = true → VG v ∧ (0 ≤ a ∧ a ≤ 2097152)) := fun q => ⟨(good_vg hv q).1, (good_vg hv q).2.1⟩
  have HH : Hid (∀ W, Kp W0 W → Calls Try.prog 12 #[.slice v.ha v.hl v.hc] W fun e w' => HldR W v.hl v.H e w') := fun W q => held_any v.ha v.hl v.hc v.H W (hv.h.kp (LK.kp_of_tb (K0.trans q))) hv.hy
  have HA : Hid (VG v → (0 ≤ a ∧ a ≤ 2097152) → ∀ W ao cap, Kp W0 W → HsAt W ao v.hl v.H → Calls Try.prog 16 #[v.m.v, .slice v.ta v.tl v.tc, .slice v.na v.nl v.nc, .slice v.ja v.jl v.jc, .slice ao v.hl cap, .int .i64 v.now, .int .i64 a] W fun e w' => e = .returned (.int .i64 (lsI v a)) ∧ Kp W w') := fun g ha W ao cap q z => by
    have y := pleast_any (v.setH ao v.hl cap v.H) a W ((hv.kept (K0.trans q)).setH z) g.setH
    rw [lsI_setH] at y
    exact y
  have HB : Hid (VG v → (0 ≤ a ∧ a ≤ 2097152) → ∀ W, Kp W0 W → Calls Try.prog 17 #[v.m.v, .slice v.ta v.tl v.tc, .slice v.na v.nl v.nc, .slice v.ja v.jl v.jc, .slice v.ha v.hl v.hc, .int .i64 v.now, .int .i64 a] W fun e w' => e = .returned (.int .i64 (lsI v a)) ∧ Kp W w') := fun g ha W q => rleast_any v a W (hv.kept (K0.trans q)) g
  generalize lsI v a = res at *
  obtain ⟨p0, p1, p2, p3, p4, p5, p6, p7, p8, p9, p10, p11, p12, p13, p14⟩ := P0.all
  generalize goodV v a = gd at *
  unfold Vw.rv Mc.v at *
  clear K0 P0 hv
  cases gd with
  | false =>
    go_enter Try.func5, Try.ntmps5
    go_wp2_with fail
    rw [← HW.out]
    refine Calls.mono HG.out ?_
    rintro e w1 ⟨rfl, k1⟩
    go_wp2_with fail
    refine (sanswers_any _).mono ?_
    rintro e w2 ⟨rfl, k2⟩
    go_wp2
    go_ret
    exact ⟨rfl, HE.out _ ((HK.out.trans k1).trans k2)⟩
  | true =>
    obtain ⟨d, ha⟩ := HD.out rfl
    have HA' : Hid _ := HA.out d ha
    have HB' : Hid _ := HB.out d ha
    clear HA HB HD d ha
    go_enter Try.func5, Try.ntmps5
    try dsimp only [List.append]
    go_wp2_with fail
    rw [← HW.out]
    clear HW
    refine Calls.mono HG.out ?_
    rintro e w1 ⟨rfl, k1⟩
    have HK1 : Hid (Kp W0 w1) := k1
    clear p0 p1 p2 p3 p4 p5 p6 p7 p8 p9 p10 p11 p12 p13 p14 k1 HG
    obtain ⟨p0, p1, p2, p3, p4, p5, p6, p7, p8, p9, p10, p11, p12, p13, p14⟩ := (HP.out _ HK1.out).all
    go_wp2_with fail
    go_region_held3 (fun w' => w'.cell? ⟨w.heap.size, 0, none⟩ = some (.slice v.m.aL v.m.lL v.m.cL) ∧ w'.cell? ⟨w.heap.size, 1, none⟩ = some (.slice v.m.aS v.m.lS v.m.cS) ∧ w'.cell? ⟨w.heap.size, 2, none⟩ = some (.slice v.m.aD v.m.lD v.m.cD) ∧ w'.cell? ⟨w.heap.size, 3, none⟩ = some (.int .i64 v.m.idle) ∧ w'.cell? ⟨w.heap.size, 4, none⟩ = some (.int .i64 v.m.crit) ∧ w'.cell? ⟨w.heap.size, 5, none⟩ = some (.int .i64 v.m.sw) ∧ w'.cell? ⟨w.heap.size, 6, none⟩ = some (.int .i64 v.m.swe) ∧ w'.cell? ⟨w.heap.size, 7, none⟩ = some (.int .i64 v.m.sems) ∧ w'.cell? ⟨w.heap.size, 8, none⟩ = some (.int .i64 v.m.hor) ∧ w'.cell? ⟨w.heap.size, 9, none⟩ = some (.slice v.ta v.tl v.tc) ∧ w'.cell? ⟨w.heap.size, 10, none⟩ = some (.slice v.na v.nl v.nc) ∧ w'.cell? ⟨w.heap.size, 11, none⟩ = some (.slice v.ja v.jl v.jc) ∧ w'.cell? ⟨w.heap.size, 12, none⟩ = some (.slice v.ha v.hl v.hc) ∧ w'.cell? ⟨w.heap.size, 13, none⟩ = some (.int .i64 v.now) ∧ w'.cell? ⟨w.heap.size, 14, none⟩ = some (.int .i64 a)) (go_keep) (first
      | (go_at_call 10; refine (sanswers_any _).mono ?_; rintro e w2 ⟨rfl, k2⟩; have K2 : Kp W0 w2 := HK1.out.trans (by first | exact (TB.kp_drew _).trans k2 | exact k2); clear k2; obtain ⟨z0, z1, z2, z3, z4, z5, z6, z7, z8, z9, z10, z11, z12, z13, z14⟩ := (HP.out _ K2).all)
      | (go_at_call 12; refine (HH.out _ K2).mono ?_; rintro e w3 ⟨ao, cap, rfl, q3, k3⟩; have K3 : Kp W0 w3 := K2.trans k3; have HQ3 : Hid (HsAt w3 ao v.hl v.H) := q3; clear k3 q3; obtain ⟨z0, z1, z2, z3, z4, z5, z6, z7, z8, z9, z10, z11, z12, z13, z14⟩ := (HP.out _ K3).all)
      | (go_at_call 16; refine (HA'.out _ _ _ K3 HQ3.out).mono ?_; rintro e w4 ⟨rfl, k4⟩; have K4 := K3.trans k4; clear k4; obtain ⟨z0, z1, z2, z3, z4, z5, z6, z7, z8, z9, z10, z11, z12, z13, z14⟩ := (HP.out _ K4).all)
      | (go_at_call 17; refine (HB'.out _ K4).mono ?_; rintro e w5 ⟨rfl, k5⟩; have K9 := K4.trans k5; clear k5; obtain ⟨z0, z1, z2, z3, z4, z5, z6, z7, z8, z9, z10, z11, z12, z13, z14⟩ := (HP.out _ K9).all)
      | fail)
    all_goals
      go_wp2
      go_ret
      exact ⟨by simp, HE.out _ (HK.out.trans K9)⟩

end Go.Proofs.Ytaibpanceiapmaa.SK
