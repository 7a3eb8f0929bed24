/- When the CPU has to be there again, in any view. -/
import Derived.Test.YtnpbdcnogeohdaaRstLaw
namespace Go.Proofs.Ytnpbdcnogeohdaa.RS
open Go.ChangeShapes Go.WideShapes Go.ChangeAt Go.RowKit Go.Proofs.Ytnpbdcnogeohdaa.AR Go.Proofs.Ytnpbdcnogeohdaa.TB Go.Proofs.Ytnpbdcnogeohdaa.TK Go.Proofs.Ytnpbdcnogeohdaa.JB Go.Proofs.Ytnpbdcnogeohdaa.FX Go.Proofs.Ytnpbdcnogeohdaa.AD Go.Proofs.Ytnpbdcnogeohdaa.SK
open Go.Proofs.Ytnpbdcnogeohdaa.LK (Hd atH HsAt C3)

set_option maxRecDepth 100000 in
set_option maxHeartbeats 16000000 in
theorem restReady_walk (v : Vw) (a : Int) (w : World) (hv0 : VL w v) (_ : I64 v.now) (_ : I64 a) :
    Calls Try.prog 3 #[v.rv a] w fun e w' => e = .returned (.bool true) ∧ Below w.heap.size w w' := by
  have HE : Hid (∀ w', Kp w w' → Below w.heap.size w w') := fun w' q => q
  obtain ⟨W0, HW, K0, P0⟩ := box_noJ w v a
  obtain ⟨u, hu⟩ : ∃ u, (v.setH none 0 0 []).setJ none 0 0 [] = u := ⟨_, rfl⟩
  have hv : VL w u := by rw [← hu]; exact hv0.noH.noJ
  have hb : Bare u := by rw [← hu]; exact bare_of v
  rw [hu] at P0
  clear hu hv0
  have HP : Hid (∀ W, Kp W0 W → B15 W w.heap.size u a) := fun W k => P0.kp k
  have HK : Hid (Kp w W0) := K0
  have HG : Hid (Calls Try.prog 6 #[u.rv a] W0 fun e w' => e = .returned (.bool (goodV u a)) ∧ Kp W0 w') := rgood_any u a W0 (hv.kept K0) hb
  have HD : Hid (goodV u a = true → VG u) := fun q => (good_vg hv q).1
  have HA : Hid (VG u → ∀ W, Kp W0 W → Calls Try.prog 8 #[u.m.v, .slice u.ta u.tl u.tc, .slice u.na u.nl u.nc, .int .i64 u.now] W fun e w' => e = .returned (.int .i64 (u.now + awI u)) ∧ Kp W w') := fun g W q => pready_any u W (hv.kept (K0.trans q)) g hb
  have HB : Hid (VG u → ∀ W, Kp W0 W → Calls Try.prog 9 #[u.m.v, .slice u.ta u.tl u.tc, .slice u.na u.nl u.nc, .int .i64 u.now] W fun e w' => e = .returned (.int .i64 (u.now + awI u)) ∧ Kp W w') := fun g W q => rready_any u W (hv.kept (K0.trans q)) g hb
  generalize u.now + awI u = res at *
  obtain ⟨p0, p1, p2, p3, p4, p5, p6, p7, p8, p9, p10, p11, p12, p13, p14⟩ := P0.all
  generalize goodV u a = gd at *
  unfold Vw.rv Mc.v at *
  clear K0 P0 hv hb
  go_enter Try.func3, Try.ntmps3
  try dsimp only [List.append]
  go_upto_region 2 with fail
  rw [← HW.out]
  clear HW
  cases gd with
  | false =>
    go_wp2_with fail
    refine Calls.mono HG.out ?_
    rintro e w1 ⟨rfl, k1⟩
    go_wp2_with fail
    refine (ranswers_any _).mono ?_
    rintro e w2 ⟨rfl, k2⟩
    go_wp2
    go_ret
    exact ⟨rfl, HE.out _ ((HK.out.trans k1).trans k2)⟩
  | true =>
    have HA' : Hid _ := HA.out (HD.out rfl)
    have HB' : Hid _ := HB.out (HD.out rfl)
    clear HA HB HD
    go_wp2_with fail
    refine Calls.mono HG.out ?_
    rintro e w1 ⟨rfl, k1⟩
    have HK1 : Hid (Kp W0 w1) := k1
    clear p0 p1 p2 p3 p4 p5 p6 p7 p8 p9 p10 p11 p12 p13 p14 k1 HG
    obtain ⟨p0, p1, p2, p3, p4, p5, p6, p7, p8, p9, p10, p11, p12, p13, p14⟩ := (HP.out _ HK1.out).all
    go_wp2_with fail
    go_region_held3 (fun w' => w'.cell? ⟨w.heap.size, 0, none⟩ = some (.slice u.m.aL u.m.lL u.m.cL) ∧ w'.cell? ⟨w.heap.size, 1, none⟩ = some (.slice u.m.aS u.m.lS u.m.cS) ∧ w'.cell? ⟨w.heap.size, 2, none⟩ = some (.slice u.m.aD u.m.lD u.m.cD) ∧ w'.cell? ⟨w.heap.size, 3, none⟩ = some (.int .i64 u.m.idle) ∧ w'.cell? ⟨w.heap.size, 4, none⟩ = some (.int .i64 u.m.crit) ∧ w'.cell? ⟨w.heap.size, 5, none⟩ = some (.int .i64 u.m.sw) ∧ w'.cell? ⟨w.heap.size, 6, none⟩ = some (.int .i64 u.m.swe) ∧ w'.cell? ⟨w.heap.size, 7, none⟩ = some (.int .i64 u.m.sems) ∧ w'.cell? ⟨w.heap.size, 8, none⟩ = some (.int .i64 u.m.hor) ∧ w'.cell? ⟨w.heap.size, 9, none⟩ = some (.slice u.ta u.tl u.tc) ∧ w'.cell? ⟨w.heap.size, 10, none⟩ = some (.slice u.na u.nl u.nc) ∧ w'.cell? ⟨w.heap.size, 11, none⟩ = some (.slice u.ja u.jl u.jc) ∧ w'.cell? ⟨w.heap.size, 12, none⟩ = some (.slice u.ha u.hl u.hc) ∧ w'.cell? ⟨w.heap.size, 13, none⟩ = some (.int .i64 u.now) ∧ w'.cell? ⟨w.heap.size, 14, none⟩ = some (.int .i64 a)) (go_keep) (first
      | (go_at_call 7; refine (ranswers_any _).mono ?_; rintro e w2 ⟨rfl, k2⟩; have K2 : Kp W0 w2 := HK1.out.trans (by first | exact (TB.kp_drew _).trans k2 | exact k2); clear k2; obtain ⟨z0, z1, z2, z3, z4, z5, z6, z7, z8, z9, z10, z11, z12, z13, z14⟩ := (HP.out _ K2).all)
      | (go_at_call 8; refine (HA'.out _ K2).mono ?_; rintro e w3 ⟨rfl, k3⟩; have K3 : Kp W0 w3 := K2.trans k3; clear k3; obtain ⟨z0, z1, z2, z3, z4, z5, z6, z7, z8, z9, z10, z11, z12, z13, z14⟩ := (HP.out _ K3).all)
      | (go_at_call 9; refine (HB'.out _ K3).mono ?_; rintro e w4 ⟨rfl, k4⟩; have K9 := K3.trans k4; clear k4; obtain ⟨z0, z1, z2, z3, z4, z5, z6, z7, z8, z9, z10, z11, z12, z13, z14⟩ := (HP.out _ K9).all)
      | fail)
    all_goals
      go_wp2
      go_ret
      exact ⟨by simp, HE.out _ (HK.out.trans K9)⟩

end Go.Proofs.Ytnpbdcnogeohdaa.RS
