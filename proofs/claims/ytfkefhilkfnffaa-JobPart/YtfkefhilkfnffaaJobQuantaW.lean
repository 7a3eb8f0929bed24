/- What any job may take yet, at the first level. -/
import Derived.Test.YtfkefhilkfnffaaJobQn
import Derived.Test.YtfkefhilkfnffaaTbl
namespace Go.Proofs.Ytfkefhilkfnffaa.JB
open Go.ChangeShapes Go.WideShapes Go.ChangeAt Go.RowKit Go.Proofs.Ytfkefhilkfnffaa.AR Go.Proofs.Ytfkefhilkfnffaa.TB Go.Proofs.Ytfkefhilkfnffaa.TK Go.Proofs.Ytfkefhilkfnffaa.FX Go.Proofs.Ytfkefhilkfnffaa.AD

theorem jtable_at (m : Mc) (w : World) (h : m.At w) : Calls Try.prog 12 #[m.v] w fun e w' => e = .returned (.bool m.may) ∧ Kp w w' :=
  reftable_any m.aL m.lL m.cL m.rL m.aS m.lS m.cS m.rS m.aD m.lD m.cD m.rD m.idle m.crit m.sw m.swe m.sems m.hor w h

theorem near1 {a : Int} (h : nrB [a] 1 = true) : -1073741824 ≤ a ∧ a ≤ 1073741824 := by
  simp [nrB, inB] at h
  omega

/-- one number in a block of its own -/
theorem one_num (w : World) (a : Int) : ∃ V, Hid (V = w.alloc (.cells #[.int .i64 a] 3)) ∧ Kp w V ∧ ∀ i, i < 1 → V.cell? ⟨w.heap.size, 0 + i, none⟩ = some (.int .i64 ([a].getD i 0)) :=
  ⟨_, rfl, (Kp.refl _).alloc _, nums_at (zs := [a]) (heap_alloc_at w (.cells #[.int .i64 a] 3))⟩

set_option maxHeartbeats 8000000 in
theorem jobQuanta_go (m : Mc) (j : Jb) (w : World) (hm : m.At w) :
    Calls Try.prog 6 #[m.v, j.v] w fun e w' => e = .returned (.bool true) ∧ Below w.heap.size w w' := by
  have HE : Hid (∀ w', Kp w w' → Below w.heap.size w w') := fun w' q => q
  obtain ⟨W0, HW, K0, P0, J0⟩ := mach_job w m j
  have HT : Hid (Calls Try.prog 12 #[m.v] W0 fun e w' => e = .returned (.bool m.may) ∧ Kp W0 w') := jtable_at m W0 (hm.kept K0)
  have HD : Hid (m.may = true → Bd m) := bd_of
  have HN : Hid (∀ W V : World, Hid (V = W.alloc (.cells #[.int .i64 j.l] 3)) → Calls Try.prog 8 #[.slice (some ⟨W.heap.size, 0, none⟩) 1 1] V fun e w' => e = .returned (.bool (nrB [j.l] 1)) ∧ V = w') := fun W V e => by
    obtain ⟨V', e', _, h⟩ := one_num W j.l
    obtain rfl : V = V' := e.out.trans e'.out.symm
    exact near_any _ _ _ _ _ V h (by omega)
  have HG : Hid (nrB [j.l] 1 = true → j.l ≤ 1073741824) := fun q => (near1 q).2
  have H1 : Hid (Bd m → j.l ≤ 1073741824 → ∀ W, Kp w W → Calls Try.prog 13 #[m.v, j.v] W fun e w' => e = .returned (.int .i64 (jqI m j)) ∧ Kp W w') := fun d q W k => jquanta_any m j W (hm.kept k) d q
  have H2 : Hid (Bd m → j.l ≤ 1073741824 → ∀ W, Kp w W → Calls Try.prog 14 #[m.v, j.v] W fun e w' => e = .returned (.int .i64 (jqI m j)) ∧ Kp W w') := fun d q W k => rjquanta_any m j W (hm.kept k) d q
  have HP : Hid (∀ W, Kp W0 W → B9 W w.heap.size m) := fun W k => P0.kp k
  have HJ : Hid (∀ W, Kp W0 W → BJ W (w.heap.size + 1) j) := fun W k => J0.kp k
  have HK : Hid (Kp w W0) := K0
  generalize m.may = may at *
  generalize nrB [j.l] 1 = gd at *
  generalize jqI m j = res at *
  obtain ⟨p0, p1, p2, p3, p4, p5, p6, p7, p8⟩ := P0.all
  obtain ⟨x0, x1, x2, x3, x4, x5⟩ := J0.all
  clear K0 P0 J0 hm
  unfold Mc.v Jb.v at *
  cases may with
  | false =>
    clear HN HG H1 H2 HD
    go_enter Try.func6, Try.ntmps6
    go_wp2_with fail
    rw [← HW.out]
    refine HT.out.mono ?_
    rintro e w1 ⟨rfl, k1⟩
    go_wp2_with fail
    refine (janswers_any _).mono ?_
    rintro e w2 ⟨rfl, k2⟩
    go_wp2
    go_ret
    exact ⟨rfl, HE.out _ ((HK.out.trans k1).trans k2)⟩
  | true =>
    have H1' := H1.out (HD.out rfl)
    have H2' := H2.out (HD.out rfl)
    clear H1 H2 HD
    have H1 : Hid _ := H1'
    have H2 : Hid _ := H2'
    clear H1' H2'
    go_enter Try.func6, Try.ntmps6
    go_wp2_with fail
    rw [← HW.out]
    clear HW
    refine HT.out.mono ?_
    rintro e w1 ⟨rfl, k1⟩
    have HK1 : Hid (Kp W0 w1) := k1
    clear HT k1 p0 p1 p2 p3 p4 p5 p6 p7 p8 x0 x1 x2 x3 x4 x5
    obtain ⟨p0, p1, p2, p3, p4, p5, p6, p7, p8⟩ := (HP.out _ HK1.out).all
    obtain ⟨x0, x1, x2, x3, x4, x5⟩ := (HJ.out _ HK1.out).all
    obtain ⟨V, HV⟩ : ∃ V, Hid (V = w1.alloc (.cells #[.int .i64 j.l] 3)) := ⟨_, rfl⟩
    have HC := HN.out w1 V HV
    have HKV : Hid (Kp W0 V) := by show Kp _ _; rw [HV.out]; exact HK1.out.alloc _
    clear HN
    cases gd with
    | false =>
      clear HG H1 H2
      go_wp2_with fail
      rw [← HV.out]
      clear HV
      refine HC.mono ?_
      rintro e w2 ⟨rfl, rfl⟩
      go_wp2_with fail
      refine (janswers_any _).mono ?_
      rintro e w2 ⟨rfl, k2⟩
      go_wp2
      go_ret
      exact ⟨rfl, HE.out _ ((HK.out.trans HKV.out).trans k2)⟩
    | true =>
      have H1' := H1.out (HG.out rfl)
      have H2' := H2.out (HG.out rfl)
      clear H1 H2 HG
      have H1 : Hid _ := H1'
      have H2 : Hid _ := H2'
      clear H1' H2'
      go_wp2_with fail
      rw [← HV.out]
      clear HV
      refine HC.mono ?_
      rintro e w2 ⟨rfl, rfl⟩
      clear HC p0 p1 p2 p3 p4 p5 p6 p7 p8 x0 x1 x2 x3 x4 x5
      obtain ⟨p0, p1, p2, p3, p4, p5, p6, p7, p8⟩ := (HP.out _ HKV.out).all
      obtain ⟨x0, x1, x2, x3, x4, x5⟩ := (HJ.out _ HKV.out).all
      go_wp2_with fail
      go_region_held3 (fun w' => w'.cell? ⟨w.heap.size, 0, none⟩ = some (.slice m.aL m.lL m.cL) ∧ w'.cell? ⟨w.heap.size, 1, none⟩ = some (.slice m.aS m.lS m.cS) ∧ w'.cell? ⟨w.heap.size, 2, none⟩ = some (.slice m.aD m.lD m.cD) ∧ w'.cell? ⟨w.heap.size, 3, none⟩ = some (.int .i64 m.idle) ∧ w'.cell? ⟨w.heap.size, 4, none⟩ = some (.int .i64 m.crit) ∧ w'.cell? ⟨w.heap.size, 5, none⟩ = some (.int .i64 m.sw) ∧ w'.cell? ⟨w.heap.size, 6, none⟩ = some (.int .i64 m.swe) ∧ w'.cell? ⟨w.heap.size, 7, none⟩ = some (.int .i64 m.sems) ∧ w'.cell? ⟨w.heap.size, 8, none⟩ = some (.int .i64 m.hor) ∧ w'.cell? ⟨w.heap.size + 1, 0, none⟩ = some (.int .i64 j.t) ∧ w'.cell? ⟨w.heap.size + 1, 1, none⟩ = some (.int .i64 j.r) ∧ w'.cell? ⟨w.heap.size + 1, 2, none⟩ = some (.int .i64 j.d) ∧ w'.cell? ⟨w.heap.size + 1, 3, none⟩ = some (.int .i64 j.l) ∧ w'.cell? ⟨w.heap.size + 1, 4, none⟩ = some (.int .i64 j.x) ∧ w'.cell? ⟨w.heap.size + 1, 5, none⟩ = some (.bool j.s)) (go_keep) (first
        | (go_at_call 9; refine (janswers_any _).mono ?_; rintro e w2 ⟨rfl, k2⟩; have K2 : Kp W0 w2 := HKV.out.trans (by first | exact (kp_drew _).trans k2 | exact k2); clear k2; obtain ⟨z0, z1, z2, z3, z4, z5, z6, z7, z8⟩ := (HP.out _ K2).all; obtain ⟨y0, y1, y2, y3, y4, y5⟩ := (HJ.out _ K2).all)
        | (go_at_call 13; refine (H1.out _ (HK.out.trans K2)).mono ?_; rintro e w3 ⟨rfl, k3⟩; have K3 := K2.trans k3; clear k3; obtain ⟨z0, z1, z2, z3, z4, z5, z6, z7, z8⟩ := (HP.out _ K3).all; obtain ⟨y0, y1, y2, y3, y4, y5⟩ := (HJ.out _ K3).all)
        | (go_at_call 14; refine (H2.out _ (HK.out.trans K3)).mono ?_; rintro e w4 ⟨rfl, k4⟩; have K4 := K3.trans k4; clear k4; obtain ⟨z0, z1, z2, z3, z4, z5, z6, z7, z8⟩ := (HP.out _ K4).all; obtain ⟨y0, y1, y2, y3, y4, y5⟩ := (HJ.out _ K4).all)
        | fail)
      all_goals
        go_wp2
        go_ret
        exact ⟨by simp, HE.out _ (HK.out.trans K4)⟩

theorem jobQuanta_walk (aL : Option Addr) (lL cL : Nat) (rL : List (List Int)) (aS : Option Addr) (lS cS : Nat) (rS : List (List Int)) (aD : Option Addr) (lD cD : Nat) (rD : List (List Int)) (idle crit sw swe sems hor : Int) (j : Jb) (w : World)
    (hm : Mach w aL lL rL aS lS rS aD lD rD) :
    Calls Try.prog 6 #[pv aL lL cL aS lS cS aD lD cD idle crit sw swe sems hor, j.v] w fun e w' => e = .returned (.bool true) ∧ Below w.heap.size w w' :=
  jobQuanta_go ⟨aL, lL, cL, rL, aS, lS, cS, rS, aD, lD, cD, rD, idle, crit, sw, swe, sems, hor⟩ j w hm

end Go.Proofs.Ytfkefhilkfnffaa.JB
