/- With fewer cycles left it is no faster. -/
import Derived.Test.YtlhacdbeadchjaaGovLaw
namespace Go.Proofs.Ytlhacdbeadchjaa.GV
open Go.ChangeShapes Go.WideShapes Go.ChangeAt Go.RowKit Go.Proofs.Ytlhacdbeadchjaa.AR Go.Proofs.Ytlhacdbeadchjaa.TB Go.Proofs.Ytlhacdbeadchjaa.FX
set_option linter.unusedVariables false

set_option maxRecDepth 100000 in
set_option maxHeartbeats 16000000 in
theorem governLess_go (m : Mc) (a : Ak) (mr : Int) (w : World) (hm : m.At w) (ha : I64 a.sl) (hw : 0 ≤ mr ∧ mr ≤ 65535) :
    Calls Try.prog 6 #[m.v, a.v, .int .u16 mr] w fun e w' => e = .returned (.bool true) ∧ Below w.heap.size w w' := by
  have HE : Hid (∀ w', Kp w w' → Below w.heap.size w w') := fun w' q => q
  obtain ⟨W0, HW, K0, P0, A0⟩ := ma_box w m a
  have HP : Hid (∀ W, Kp W0 W → B9 W w.heap.size m ∧ A5 W (w.heap.size + 1) a) := fun W k => ⟨P0.kp k, A0.kp k⟩
  have HK : Hid (Kp w W0) := K0
  have HG : Hid (Calls Try.prog 8 #[m.v, a.v] W0 fun e w' => e = .returned (.bool (goodB m a)) ∧ Kp W0 w') := good_any m a W0 (hm.kept K0)
  have HD : Hid (goodB m a = true → Bd m ∧ 0 ≤ a.lf ∧ a.lf ≤ 8192) := good_t
  have h1 : 0 ≤ a.lf ∧ a.lf ≤ 8192 → wrap64 (a.lf - mr) = a.lf - mr := fun q1 => IntWalk.wrap64_in _ (by omega)
  have HMx : Hid (∀ w, Calls Try.prog 13 #[.int .i64 (wrap64 (a.lf - mr)), .int .i64 0] w fun e w' => e = .returned (.int .i64 (mx (wrap64 (a.lf - mr)) 0)) ∧ w = w') := fun w => rmax_at _ 0 w
  have h2 : 0 ≤ a.lf ∧ a.lf ≤ 8192 → 0 ≤ mx (wrap64 (a.lf - mr)) 0 ∧ mx (wrap64 (a.lf - mr)) 0 ≤ a.lf := fun q1 => by rw [h1 q1]; unfold mx; split <;> omega
  generalize mx (wrap64 (a.lf - mr)) 0 = lf at *
  obtain ⟨b, hb0⟩ : ∃ b : Ak, b = ⟨a.pol, a.st, lf, a.sl, a.lv⟩ := ⟨_, rfl⟩
  have HC : Hid (Bd m ∧ 0 ≤ a.lf ∧ a.lf ≤ 8192 → ∀ W, Kp W0 W → Calls Try.prog 10 #[m.v, a.v] W fun e w' => e = .returned (.int .i64 (caN m a : Nat)) ∧ Kp W w') := fun g W q => lchoose_any m a W (hm.kept (K0.trans q)) g.1 g.2
  have HC2 : Hid (Bd m ∧ 0 ≤ a.lf ∧ a.lf ≤ 8192 → ∀ W, Kp W0 W → Calls Try.prog 10 #[m.v, b.v] W fun e w' => e = .returned (.int .i64 (caN m b : Nat)) ∧ Kp W w') := fun g W q => lchoose_any m b W (hm.kept (K0.trans q)) g.1 (by rw [hb0]; have := h2 g.2; exact ⟨this.1, by show lf ≤ 8192; omega⟩)
  have HL : Hid (Bd m ∧ 0 ≤ a.lf ∧ a.lf ≤ 8192 → (caN m a : Int) ≤ (caN m b : Int)) := fun g => by
    subst hb0
    have := ch_less g.1 a.pol a.st a.sl a.lv (lf := a.lf) (lf' := lf) (h2 g.2).2
    unfold caN; dsimp only; omega
  have HBx : Hid (∀ W, ∃ X, Hid (X = W.alloc (.cells #[.int .i64 a.pol, .int .i64 a.st, .int .i64 lf, .int .i64 a.sl, .int .i64 a.lv] 28)) ∧ Kp W X ∧ ∀ Y, Kp X Y → Y.cell? ⟨W.heap.size, 0, none⟩ = some (.int .i64 b.pol) ∧ Y.cell? ⟨W.heap.size, 1, none⟩ = some (.int .i64 b.st) ∧ Y.cell? ⟨W.heap.size, 2, none⟩ = some (.int .i64 b.lf) ∧ Y.cell? ⟨W.heap.size, 3, none⟩ = some (.int .i64 b.sl) ∧ Y.cell? ⟨W.heap.size, 4, none⟩ = some (.int .i64 b.lv)) := fun W => ⟨_, rfl, (Kp.refl _).alloc _, fun Y q => by subst hb0; exact ((a5_new W ⟨a.pol, a.st, lf, a.sl, a.lv⟩).kp q).all⟩
  generalize caN m b = res2 at *
  generalize caN m a = res at *
  clear hb0 h1 h2
  obtain ⟨p0, p1, p2, p3, p4, p5, p6, p7, p8⟩ := P0.all
  obtain ⟨q0, q1, q2, q3, q4⟩ := A0.all
  generalize goodB m a = gd at *
  unfold Mc.v Ak.v at *
  clear K0 P0 A0
  cases gd with
  | false =>
    go_enter Try.func6, Try.ntmps6
    go_wp2_with fail
    rw [← HW.out]
    refine Calls.mono HG.out ?_
    rintro e w1 ⟨rfl, k1⟩
    go_wp2_with fail
    refine (ganswers_any _).mono ?_
    rintro e w2 ⟨rfl, k2⟩
    go_wp2
    go_ret
    exact ⟨rfl, HE.out _ ((HK.out.trans k1).trans k2)⟩
  | true =>
    have HC' : Hid _ := HC.out (HD.out rfl)
    have HF' : Hid _ := HC2.out (HD.out rfl)
    have HD' : Hid _ := HD.out rfl
    clear HC HC2 HD
    have hle := HL.out (HD'.out)
    clear HL HD'
    go_enter Try.func6, Try.ntmps6
    try dsimp only [List.append]
    go_wp2_with fail
    rw [← HW.out]
    clear HW
    refine Calls.mono HG.out ?_
    rintro e w1 ⟨rfl, k1⟩
    have HK1 : Hid (Kp W0 w1) := k1
    clear p0 p1 p2 p3 p4 p5 p6 p7 p8 q0 q1 q2 q3 q4 k1 HG
    obtain ⟨r1, r2⟩ := HP.out _ HK1.out
    obtain ⟨p0, p1, p2, p3, p4, p5, p6, p7, p8⟩ := r1.all
    obtain ⟨q0, q1, q2, q3, q4⟩ := r2.all
    clear r1 r2
    have hg1 : w.heap.size + 1 < w1.heap.size := (HP.out _ HK1.out).2.lt
    go_wp2_with (first
      | (go_at_call 13; refine Calls.mono (HMx.out _) ?_; rintro e w2 ⟨rfl, rfl⟩)
      | fail)
    obtain ⟨X, HX, KX, HY0⟩ := HBx.out w1
    rw [← HX.out]
    have HY : Hid _ := HY0
    have HKX : Hid (Kp W0 X) := HK1.out.trans KX
    clear HX HBx KX HY0 p0 p1 p2 p3 p4 p5 p6 p7 p8 q0 q1 q2 q3 q4
    obtain ⟨r1, r2⟩ := HP.out _ HKX.out
    obtain ⟨p0, p1, p2, p3, p4, p5, p6, p7, p8⟩ := r1.all
    obtain ⟨q0, q1, q2, q3, q4⟩ := r2.all
    obtain ⟨y0, y1, y2, y3, y4⟩ := HY.out _ (Kp.refl _)
    clear r1 r2
    go_region_held3 (fun w' => (w'.cell? ⟨w.heap.size, 0, none⟩ = some (.slice m.aL m.lL m.cL) ∧ w'.cell? ⟨w.heap.size, 1, none⟩ = some (.slice m.aS m.lS m.cS) ∧ w'.cell? ⟨w.heap.size, 2, none⟩ = some (.slice m.aD m.lD m.cD) ∧ w'.cell? ⟨w.heap.size, 3, none⟩ = some (.int .i64 m.idle) ∧ w'.cell? ⟨w.heap.size, 4, none⟩ = some (.int .i64 m.crit) ∧ w'.cell? ⟨w.heap.size, 5, none⟩ = some (.int .i64 m.sw) ∧ w'.cell? ⟨w.heap.size, 6, none⟩ = some (.int .i64 m.swe) ∧ w'.cell? ⟨w.heap.size, 7, none⟩ = some (.int .i64 m.sems) ∧ w'.cell? ⟨w.heap.size, 8, none⟩ = some (.int .i64 m.hor) ∧ w'.cell? ⟨w.heap.size + 1, 0, none⟩ = some (.int .i64 a.pol) ∧ w'.cell? ⟨w.heap.size + 1, 1, none⟩ = some (.int .i64 a.st) ∧ w'.cell? ⟨w.heap.size + 1, 2, none⟩ = some (.int .i64 a.lf) ∧ w'.cell? ⟨w.heap.size + 1, 3, none⟩ = some (.int .i64 a.sl) ∧ w'.cell? ⟨w.heap.size + 1, 4, none⟩ = some (.int .i64 a.lv)) ∧ w'.cell? ⟨w1.heap.size, 0, none⟩ = some (.int .i64 b.pol) ∧ w'.cell? ⟨w1.heap.size, 1, none⟩ = some (.int .i64 b.st) ∧ w'.cell? ⟨w1.heap.size, 2, none⟩ = some (.int .i64 b.lf) ∧ w'.cell? ⟨w1.heap.size, 3, none⟩ = some (.int .i64 b.sl) ∧ w'.cell? ⟨w1.heap.size, 4, none⟩ = some (.int .i64 b.lv)) (go_keep) (first
      | (go_at_call 9; refine (ganswers_any _).mono ?_; rintro e w2 ⟨rfl, k2⟩; have K2 : Kp X w2 := (by first | exact (TB.kp_drew _).trans k2 | exact k2); clear k2; obtain ⟨r1, r2⟩ := HP.out _ (HKX.out.trans K2); obtain ⟨z0, z1, z2, z3, z4, z5, z6, z7, z8⟩ := r1.all; obtain ⟨u0, u1, u2, u3, u4⟩ := r2.all; clear r1 r2; obtain ⟨y0, y1, y2, y3, y4⟩ := HY.out _ K2)
      | (go_at_call 10; refine Calls.mono (HF'.out _ (HKX.out.trans K2)) ?_; clear HF'; rintro e w4 ⟨rfl, k4⟩; have K4 := K2.trans k4; clear k4; obtain ⟨r1, r2⟩ := HP.out _ (HKX.out.trans K4); obtain ⟨z0, z1, z2, z3, z4, z5, z6, z7, z8⟩ := r1.all; obtain ⟨u0, u1, u2, u3, u4⟩ := r2.all; clear r1 r2; obtain ⟨y0, y1, y2, y3, y4⟩ := HY.out _ K4)
      | (go_at_call 10; refine Calls.mono (HC'.out _ (HKX.out.trans K4)) ?_; rintro e w5 ⟨rfl, k5⟩; have K9 := K4.trans k5; clear k5; obtain ⟨r1, r2⟩ := HP.out _ (HKX.out.trans K9); obtain ⟨z0, z1, z2, z3, z4, z5, z6, z7, z8⟩ := r1.all; obtain ⟨u0, u1, u2, u3, u4⟩ := r2.all; clear r1 r2; obtain ⟨y0, y1, y2, y3, y4⟩ := HY.out _ K9)
      | fail)
    all_goals
      go_wp2
      go_ret
      exact ⟨by simp, HE.out _ (HK.out.trans (HKX.out.trans K9))⟩

theorem gw_in {x : Int} (h : (Lit.int .u16 x).wf = true) : 0 ≤ x ∧ x ≤ 65535 := by
  simp [Lit.wf, IntKind.min, IntKind.max, IntKind.signed, IntKind.bits] at h
  omega

theorem governLess_walk (aL : Option Addr) (lL cL : Nat) (rL : List (List Int)) (aS : Option Addr) (lS cS : Nat) (rS : List (List Int)) (aD : Option Addr) (lD cD : Nat) (rD : List (List Int)) (idle crit sw swe sems hor : Int) (a : Ak) (mr : Int) (w : World)
    (hm : Mach w aL lL rL aS lS rS aD lD rD) (ha : I64 a.sl) (hw : (Lit.int .u16 mr).wf = true) :
    Calls Try.prog 6 #[pv aL lL cL aS lS cS aD lD cD idle crit sw swe sems hor, a.v, .int .u16 mr] w fun e w' => e = .returned (.bool true) ∧ Below w.heap.size w w' :=
  governLess_go ⟨aL, lL, cL, rL, aS, lS, cS, rS, aD, lD, cD, rD, idle, crit, sw, swe, sems, hor⟩ a mr w hm ha (gw_in hw)

end Go.Proofs.Ytlhacdbeadchjaa.GV
