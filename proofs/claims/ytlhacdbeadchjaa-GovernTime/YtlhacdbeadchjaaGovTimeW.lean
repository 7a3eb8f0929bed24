/- For a slower level there is time enough. -/
import Derived.Test.YtlhacdbeadchjaaGovLaw
namespace Go.Proofs.Ytlhacdbeadchjaa.GV
open Go.ChangeShapes Go.WideShapes Go.ChangeAt Go.RowKit Go.Proofs.Ytlhacdbeadchjaa.AR Go.Proofs.Ytlhacdbeadchjaa.TB Go.Proofs.Ytlhacdbeadchjaa.FX
set_option linter.unusedVariables false

set_option maxRecDepth 100000 in
set_option maxHeartbeats 16000000 in
theorem governTime_go (m : Mc) (a : Ak) (w : World) (hm : m.At w) (ha : I64 a.sl) :
    Calls Try.prog 4 #[m.v, a.v] w fun e w' => e = .returned (.bool true) ∧ Below w.heap.size w w' := by
  have HE : Hid (∀ w', Kp w w' → Below w.heap.size w w') := fun w' q => q
  obtain ⟨W0, HW, K0, P0, A0⟩ := ma_box w m a
  have HP : Hid (∀ W, Kp W0 W → B9 W w.heap.size m ∧ A5 W (w.heap.size + 1) a) := fun W k => ⟨P0.kp k, A0.kp k⟩
  have HK : Hid (Kp w W0) := K0
  have HG : Hid (Calls Try.prog 8 #[m.v, a.v] W0 fun e w' => e = .returned (.bool (goodB m a)) ∧ Kp W0 w') := good_any m a W0 (hm.kept K0)
  have HD : Hid (goodB m a = true → Bd m ∧ 0 ≤ a.lf ∧ a.lf ≤ 8192) := good_t
  have HC : Hid (Bd m ∧ 0 ≤ a.lf ∧ a.lf ≤ 8192 → ∀ W, Kp W0 W → Calls Try.prog 10 #[m.v, a.v] W fun e w' => e = .returned (.int .i64 (caN m a : Nat)) ∧ Kp W w') := fun g W q => lchoose_any m a W (hm.kept (K0.trans q)) g.1 g.2
  have HN : Hid (Bd m → (caN m a : Int) ≤ m.crit) := fun g => ch_le g.cr.1 _ _ _ _ _
  have HT : Hid (caN m a = 0 ∨ wh (exI m a.lf a.lv (caN m a)) ≤ a.sl) := ch_time _ _ _ _ _
  have HM : Hid (m.At W0) := hm.kept K0
  generalize caN m a = n at *
  obtain ⟨p0, p1, p2, p3, p4, p5, p6, p7, p8⟩ := P0.all
  obtain ⟨q0, q1, q2, q3, q4⟩ := A0.all
  generalize goodB m a = gd at *
  unfold Mc.v Ak.v at *
  clear K0 P0 A0
  cases gd with
  | false =>
    go_enter Try.func4, Try.ntmps4
    go_wp2_with fail
    rw [← HW.out]
    refine Calls.mono HG.out ?_
    rintro e w1 ⟨rfl, k1⟩
    go_wp2_with fail
    refine (ganswers_any _).mono ?_
    rintro e w2 ⟨rfl, k2⟩
    go_wp2
    go_ret
    exact ⟨rfl, HE.out _ ((HK.out.trans k1).trans k2)⟩
  | true =>
    have HC' : Hid _ := HC.out (HD.out rfl)
    obtain ⟨hb, hl⟩ := HD.out rfl
    have hnc := HN.out hb
    have hcr := hb.cr
    have hnl : n < m.lL := by omega
    have h4 := hb.l4
    obtain ⟨e1, e2, s1⟩ := ex_walk hb hl hnl a.lv
    clear HC HD HN
    have hq0 : ¬ (n : Int) < 0 := by omega
    have hq1 : ¬ m.crit < (n : Int) := by omega
    have hq2 : (n : Int) < (m.lL : Int) := by omega
    have hq3 : (0 : Int) < (m.lL : Int) := by omega
    have hq4 : 0 < m.lL := by omega
    by_cases hz : n = 0
    · subst hz
      clear HT e1 e2 s1 hq2 hnc hb hl
      go_enter Try.func4, Try.ntmps4
      try dsimp only [List.append]
      go_wp2_with fail
      rw [← HW.out]
      clear HW
      refine Calls.mono HG.out ?_
      rintro e w1 ⟨rfl, k1⟩
      have HK1 : Hid (Kp W0 w1) := k1
      clear p0 p1 p2 p3 p4 p5 p6 p7 p8 q0 q1 q2 q3 q4 k1 HG
      obtain ⟨r1, r2⟩ := HP.out _ HK1.out
      obtain ⟨p0, p1, p2, p3, p4, p5, p6, p7, p8⟩ := r1.all
      obtain ⟨q0, q1, q2, q3, q4⟩ := r2.all
      clear r1 r2
      go_wp2_with fail
      refine Calls.mono (HC'.out _ HK1.out) ?_
      rintro e w2 ⟨rfl, k2⟩
      have K2 := HK1.out.trans k2
      clear k2 p0 p1 p2 p3 p4 p5 p6 p7 p8 q0 q1 q2 q3 q4
      obtain ⟨r1, r2⟩ := HP.out _ K2
      obtain ⟨p0, p1, p2, p3, p4, p5, p6, p7, p8⟩ := r1.all
      obtain ⟨q0, q1, q2, q3, q4⟩ := r2.all
      clear r1 r2
      obtain ⟨b, off, e, hlb, l1, l0⟩ := lev_two (HM.out.kept K2) hnl
      rw [e] at p0
      go_wp2_with fail
      by_cases c : (0 : Int) = a.lv
      · have c' : ((0 : Int) != a.lv) = false := by simpa using c
        clear c
        go_region
        all_goals
          go_wp2_with fail
          refine wp_region_noPanic ?_
          refine wp_region_held_drew (S := fun w' => w'.cell? ⟨w.heap.size, 0, none⟩ = some (.slice m.aL m.lL m.cL) ∧ w'.cell? ⟨w.heap.size, 1, none⟩ = some (.slice m.aS m.lS m.cS) ∧ w'.cell? ⟨w.heap.size, 2, none⟩ = some (.slice m.aD m.lD m.cD) ∧ w'.cell? ⟨w.heap.size, 3, none⟩ = some (.int .i64 m.idle) ∧ w'.cell? ⟨w.heap.size, 4, none⟩ = some (.int .i64 m.crit) ∧ w'.cell? ⟨w.heap.size, 5, none⟩ = some (.int .i64 m.sw) ∧ w'.cell? ⟨w.heap.size, 6, none⟩ = some (.int .i64 m.swe) ∧ w'.cell? ⟨w.heap.size, 7, none⟩ = some (.int .i64 m.sems) ∧ w'.cell? ⟨w.heap.size, 8, none⟩ = some (.int .i64 m.hor) ∧ w'.cell? ⟨w.heap.size + 1, 0, none⟩ = some (.int .i64 a.pol) ∧ w'.cell? ⟨w.heap.size + 1, 1, none⟩ = some (.int .i64 a.st) ∧ w'.cell? ⟨w.heap.size + 1, 2, none⟩ = some (.int .i64 a.lf) ∧ w'.cell? ⟨w.heap.size + 1, 3, none⟩ = some (.int .i64 a.sl) ∧ w'.cell? ⟨w.heap.size + 1, 4, none⟩ = some (.int .i64 a.lv)) (by kernel_rfl) ?_ (fun hHeld => ?_)
          · (try dsimp only); go_keep
          refine wpAnyH_ready (rs := [0]) (by kernel_rfl) (by simp) ?_
          refine AllReadyH.cons (o := Oper.mk (some 46) _ _ _ _ _) rfl (fun K hK => ?_) AllReadyH.nil
          go_simp
          refine (ganswers_any _).mono ?_
          rintro e w5 ⟨rfl, k5⟩
          have K5 : Kp W0 w5 := K2.trans (by first | exact k5 | exact (TB.kp_drew _).trans k5 | exact (TB.kp_drew _).trans ((TB.kp_drew _).trans k5) | exact (TB.kp_drew _).trans ((TB.kp_drew _).trans ((TB.kp_drew _).trans k5)))
          clear k5
          obtain ⟨r1, r2⟩ := HP.out _ K5
          obtain ⟨z0, z1, z2, z3, z4, z5, z6, z7, z8⟩ := r1.all
          obtain ⟨u0, u1, u2, u3, u4⟩ := r2.all
          clear r1 r2
          go_wp2_with fail
          refine hK.out _ _ ?_ (fun hHeld => ?_)
          · (try dsimp only); go_keep
          clear hK K
          try simp only [Act.put, List.setIfInBounds_toArray, List.set_cons_zero, List.set_cons_succ]
          refine wpAnyH_take (i := 1) (oi := Oper.mk (some 47) _ _ _ _ _) (v := ?v1a) rfl (by kernel_rfl) (by kernel_rfl) (by kernel_rfl) (fun _ _ _ h => h) (Or.inl ⟨by rfl, ?hy1a⟩) (by assumption) ?rest1a
          case hy1a => (intro w0 hSw; (try dsimp only at hSw); go_simp; try with_reducible rfl)
          try simp only [Act.put, List.setIfInBounds_toArray, List.set_cons_zero, List.set_cons_succ]
          refine wpAnyH_take (i := 2) (oi := Oper.mk (some 48) _ _ _ _ _) (v := ?v2a) rfl (by kernel_rfl) (by kernel_rfl) (by kernel_rfl) (fun _ _ _ h => h) (Or.inl ⟨by rfl, ?hy2a⟩) (by assumption) ?rest2a
          case hy2a => (intro w0 hSw; (try dsimp only at hSw); go_simp; try with_reducible rfl)
          try simp only [Act.put, List.setIfInBounds_toArray, List.set_cons_zero, List.set_cons_succ]
          refine wpAnyH_take (i := 3) (oi := Oper.mk (some 49) _ _ _ _ _) (v := ?v3a) rfl (by kernel_rfl) (by kernel_rfl) (by kernel_rfl) (fun _ _ _ h => h) (Or.inl ⟨by rfl, ?hy3a⟩) (by assumption) ?rest3a
          case hy3a => (intro w0 hSw; (try dsimp only at hSw); go_simp; try with_reducible rfl)
          try simp only [Act.put, List.setIfInBounds_toArray, List.set_cons_zero, List.set_cons_succ]
          refine wpAnyH_take (i := 4) (oi := Oper.mk (some 50) _ _ _ _ _) (v := ?v4a) rfl (by kernel_rfl) (by kernel_rfl) (by kernel_rfl) (fun _ _ _ h => h) (Or.inl ⟨by rfl, ?hy4a⟩) (by assumption) ?rest4a
          case hy4a => (intro w0 hSw; (try dsimp only at hSw); go_simp; try with_reducible rfl)
          try simp only [Act.put, List.setIfInBounds_toArray, List.set_cons_zero, List.set_cons_succ]
          refine wpAnyH_take (i := 5) (oi := Oper.mk (some 51) _ _ _ _ _) (v := undef) rfl (by kernel_rfl) (by kernel_rfl) (by kernel_rfl) (fun _ _ _ h => h) (Or.inr ⟨by rfl, rfl⟩) (by assumption) ?_
          try simp only [Act.put, List.setIfInBounds_toArray, List.set_cons_zero, List.set_cons_succ]
          refine wpAnyH_take (i := 6) (oi := Oper.mk (some 52) _ _ _ _ _) (v := undef) rfl (by kernel_rfl) (by kernel_rfl) (by kernel_rfl) (fun _ _ _ h => h) (Or.inr ⟨by rfl, rfl⟩) (by assumption) ?_
          try simp only [Act.put, List.setIfInBounds_toArray, List.set_cons_zero, List.set_cons_succ]
          refine wpAnyH_take (i := 7) (oi := Oper.mk (some 53) _ _ _ _ _) (v := undef) rfl (by kernel_rfl) (by kernel_rfl) (by kernel_rfl) (fun _ _ _ h => h) (Or.inr ⟨by rfl, rfl⟩) (by assumption) ?_
          try simp only [Act.put, List.setIfInBounds_toArray, List.set_cons_zero, List.set_cons_succ]
          refine wpAnyH_take (i := 8) (oi := Oper.mk (some 54) _ _ _ _ _) (v := undef) rfl (by kernel_rfl) (by kernel_rfl) (by kernel_rfl) (fun _ _ _ h => h) (Or.inr ⟨by rfl, rfl⟩) (by assumption) ?_
          try simp only [Act.put, List.setIfInBounds_toArray, List.set_cons_zero, List.set_cons_succ]
          refine wpAnyH_take (i := 9) (oi := Oper.mk (some 55) _ _ _ _ _) (v := undef) rfl (by kernel_rfl) (by kernel_rfl) (by kernel_rfl) (fun _ _ _ h => h) (Or.inr ⟨by rfl, rfl⟩) (by assumption) ?_
          try simp only [Act.put, List.setIfInBounds_toArray, List.set_cons_zero, List.set_cons_succ]
          refine wpAnyH_take (i := 10) (oi := Oper.mk (some 56) _ _ _ _ _) (v := ?v10a) rfl (by kernel_rfl) (by kernel_rfl) (by kernel_rfl) (fun _ _ _ h => h) (Or.inl ⟨by rfl, ?hy10a⟩) (by assumption) ?rest10a
          case hy10a => (intro w0 hSw; (try dsimp only at hSw); go_simp; try with_reducible rfl)
          try simp only [Act.put, List.setIfInBounds_toArray, List.set_cons_zero, List.set_cons_succ]
          refine wpAnyH_take (i := 11) (oi := Oper.mk (some 57) _ _ _ _ _) (v := ?v11a) rfl (by kernel_rfl) (by kernel_rfl) (by kernel_rfl) (fun _ _ _ h => h) (Or.inl ⟨by rfl, ?hy11a⟩) (by assumption) ?rest11a
          case hy11a => (intro w0 hSw; (try dsimp only at hSw); go_simp; try with_reducible rfl)
          try simp only [Act.put, List.setIfInBounds_toArray, List.set_cons_zero, List.set_cons_succ]
          refine wpAnyH_take (i := 12) (oi := Oper.mk (some 4) _ _ _ _ _) (v := ?v12a) rfl (by kernel_rfl) (by kernel_rfl) (by kernel_rfl) (fun _ _ _ h => h) (Or.inl ⟨by rfl, ?hy12a⟩) (by assumption) ?rest12a
          case hy12a => (intro w0 hSw; (try dsimp only at hSw); go_simp; try with_reducible rfl)
          try simp only [Act.put, List.setIfInBounds_toArray, List.set_cons_zero, List.set_cons_succ]
          refine wpAnyH_done (by kernel_rfl) ?_ _
          refine NoPanic.normal ?_
          all_goals
            go_wp2
            go_ret
            exact ⟨rfl, HE.out _ (HK.out.trans K5)⟩
      · have c' : ((0 : Int) != a.lv) = true := by simpa using c
        clear c
        go_region
        all_goals
          go_wp2_with fail
          refine wp_region_noPanic ?_
          refine wp_region_held_drew (S := fun w' => w'.cell? ⟨w.heap.size, 0, none⟩ = some (.slice m.aL m.lL m.cL) ∧ w'.cell? ⟨w.heap.size, 1, none⟩ = some (.slice m.aS m.lS m.cS) ∧ w'.cell? ⟨w.heap.size, 2, none⟩ = some (.slice m.aD m.lD m.cD) ∧ w'.cell? ⟨w.heap.size, 3, none⟩ = some (.int .i64 m.idle) ∧ w'.cell? ⟨w.heap.size, 4, none⟩ = some (.int .i64 m.crit) ∧ w'.cell? ⟨w.heap.size, 5, none⟩ = some (.int .i64 m.sw) ∧ w'.cell? ⟨w.heap.size, 6, none⟩ = some (.int .i64 m.swe) ∧ w'.cell? ⟨w.heap.size, 7, none⟩ = some (.int .i64 m.sems) ∧ w'.cell? ⟨w.heap.size, 8, none⟩ = some (.int .i64 m.hor) ∧ w'.cell? ⟨w.heap.size + 1, 0, none⟩ = some (.int .i64 a.pol) ∧ w'.cell? ⟨w.heap.size + 1, 1, none⟩ = some (.int .i64 a.st) ∧ w'.cell? ⟨w.heap.size + 1, 2, none⟩ = some (.int .i64 a.lf) ∧ w'.cell? ⟨w.heap.size + 1, 3, none⟩ = some (.int .i64 a.sl) ∧ w'.cell? ⟨w.heap.size + 1, 4, none⟩ = some (.int .i64 a.lv)) (by kernel_rfl) ?_ (fun hHeld => ?_)
          · (try dsimp only); go_keep
          refine wpAnyH_ready (rs := [0]) (by kernel_rfl) (by simp) ?_
          refine AllReadyH.cons (o := Oper.mk (some 46) _ _ _ _ _) rfl (fun K hK => ?_) AllReadyH.nil
          go_simp
          refine (ganswers_any _).mono ?_
          rintro e w5 ⟨rfl, k5⟩
          have K5 : Kp W0 w5 := K2.trans (by first | exact k5 | exact (TB.kp_drew _).trans k5 | exact (TB.kp_drew _).trans ((TB.kp_drew _).trans k5) | exact (TB.kp_drew _).trans ((TB.kp_drew _).trans ((TB.kp_drew _).trans k5)))
          clear k5
          obtain ⟨r1, r2⟩ := HP.out _ K5
          obtain ⟨z0, z1, z2, z3, z4, z5, z6, z7, z8⟩ := r1.all
          obtain ⟨u0, u1, u2, u3, u4⟩ := r2.all
          clear r1 r2
          go_wp2_with fail
          refine hK.out _ _ ?_ (fun hHeld => ?_)
          · (try dsimp only); go_keep
          clear hK K
          try simp only [Act.put, List.setIfInBounds_toArray, List.set_cons_zero, List.set_cons_succ]
          refine wpAnyH_take (i := 1) (oi := Oper.mk (some 47) _ _ _ _ _) (v := ?v1b) rfl (by kernel_rfl) (by kernel_rfl) (by kernel_rfl) (fun _ _ _ h => h) (Or.inl ⟨by rfl, ?hy1b⟩) (by assumption) ?rest1b
          case hy1b => (intro w0 hSw; (try dsimp only at hSw); go_simp; try with_reducible rfl)
          try simp only [Act.put, List.setIfInBounds_toArray, List.set_cons_zero, List.set_cons_succ]
          refine wpAnyH_take (i := 2) (oi := Oper.mk (some 48) _ _ _ _ _) (v := ?v2b) rfl (by kernel_rfl) (by kernel_rfl) (by kernel_rfl) (fun _ _ _ h => h) (Or.inl ⟨by rfl, ?hy2b⟩) (by assumption) ?rest2b
          case hy2b => (intro w0 hSw; (try dsimp only at hSw); go_simp; try with_reducible rfl)
          try simp only [Act.put, List.setIfInBounds_toArray, List.set_cons_zero, List.set_cons_succ]
          refine wpAnyH_take (i := 3) (oi := Oper.mk (some 49) _ _ _ _ _) (v := ?v3b) rfl (by kernel_rfl) (by kernel_rfl) (by kernel_rfl) (fun _ _ _ h => h) (Or.inl ⟨by rfl, ?hy3b⟩) (by assumption) ?rest3b
          case hy3b => (intro w0 hSw; (try dsimp only at hSw); go_simp; try with_reducible rfl)
          try simp only [Act.put, List.setIfInBounds_toArray, List.set_cons_zero, List.set_cons_succ]
          refine wpAnyH_take (i := 4) (oi := Oper.mk (some 50) _ _ _ _ _) (v := ?v4b) rfl (by kernel_rfl) (by kernel_rfl) (by kernel_rfl) (fun _ _ _ h => h) (Or.inl ⟨by rfl, ?hy4b⟩) (by assumption) ?rest4b
          case hy4b => (intro w0 hSw; (try dsimp only at hSw); go_simp; try with_reducible rfl)
          try simp only [Act.put, List.setIfInBounds_toArray, List.set_cons_zero, List.set_cons_succ]
          refine wpAnyH_take (i := 5) (oi := Oper.mk (some 51) _ _ _ _ _) (v := undef) rfl (by kernel_rfl) (by kernel_rfl) (by kernel_rfl) (fun _ _ _ h => h) (Or.inr ⟨by rfl, rfl⟩) (by assumption) ?_
          try simp only [Act.put, List.setIfInBounds_toArray, List.set_cons_zero, List.set_cons_succ]
          refine wpAnyH_take (i := 6) (oi := Oper.mk (some 52) _ _ _ _ _) (v := undef) rfl (by kernel_rfl) (by kernel_rfl) (by kernel_rfl) (fun _ _ _ h => h) (Or.inr ⟨by rfl, rfl⟩) (by assumption) ?_
          try simp only [Act.put, List.setIfInBounds_toArray, List.set_cons_zero, List.set_cons_succ]
          refine wpAnyH_take (i := 7) (oi := Oper.mk (some 53) _ _ _ _ _) (v := undef) rfl (by kernel_rfl) (by kernel_rfl) (by kernel_rfl) (fun _ _ _ h => h) (Or.inr ⟨by rfl, rfl⟩) (by assumption) ?_
          try simp only [Act.put, List.setIfInBounds_toArray, List.set_cons_zero, List.set_cons_succ]
          refine wpAnyH_take (i := 8) (oi := Oper.mk (some 54) _ _ _ _ _) (v := undef) rfl (by kernel_rfl) (by kernel_rfl) (by kernel_rfl) (fun _ _ _ h => h) (Or.inr ⟨by rfl, rfl⟩) (by assumption) ?_
          try simp only [Act.put, List.setIfInBounds_toArray, List.set_cons_zero, List.set_cons_succ]
          refine wpAnyH_take (i := 9) (oi := Oper.mk (some 55) _ _ _ _ _) (v := undef) rfl (by kernel_rfl) (by kernel_rfl) (by kernel_rfl) (fun _ _ _ h => h) (Or.inr ⟨by rfl, rfl⟩) (by assumption) ?_
          try simp only [Act.put, List.setIfInBounds_toArray, List.set_cons_zero, List.set_cons_succ]
          refine wpAnyH_take (i := 10) (oi := Oper.mk (some 56) _ _ _ _ _) (v := ?v10b) rfl (by kernel_rfl) (by kernel_rfl) (by kernel_rfl) (fun _ _ _ h => h) (Or.inl ⟨by rfl, ?hy10b⟩) (by assumption) ?rest10b
          case hy10b => (intro w0 hSw; (try dsimp only at hSw); go_simp; try with_reducible rfl)
          try simp only [Act.put, List.setIfInBounds_toArray, List.set_cons_zero, List.set_cons_succ]
          refine wpAnyH_take (i := 11) (oi := Oper.mk (some 57) _ _ _ _ _) (v := ?v11b) rfl (by kernel_rfl) (by kernel_rfl) (by kernel_rfl) (fun _ _ _ h => h) (Or.inl ⟨by rfl, ?hy11b⟩) (by assumption) ?rest11b
          case hy11b => (intro w0 hSw; (try dsimp only at hSw); go_simp; try with_reducible rfl)
          try simp only [Act.put, List.setIfInBounds_toArray, List.set_cons_zero, List.set_cons_succ]
          refine wpAnyH_take (i := 12) (oi := Oper.mk (some 4) _ _ _ _ _) (v := ?v12b) rfl (by kernel_rfl) (by kernel_rfl) (by kernel_rfl) (fun _ _ _ h => h) (Or.inl ⟨by rfl, ?hy12b⟩) (by assumption) ?rest12b
          case hy12b => (intro w0 hSw; (try dsimp only at hSw); go_simp; try with_reducible rfl)
          try simp only [Act.put, List.setIfInBounds_toArray, List.set_cons_zero, List.set_cons_succ]
          refine wpAnyH_done (by kernel_rfl) ?_ _
          refine NoPanic.normal ?_
          all_goals
            go_wp2
            go_ret
            exact ⟨rfl, HE.out _ (HK.out.trans K5)⟩
    · have HW9 : Hid (wh (exI m a.lf a.lv n) ≤ a.sl) := by
        rcases HT.out with q | q
        · exact absurd q hz
        · exact q
      have hz' : ((n : Int) == 0) = false := by simp; omega
      clear HT hnc hb hl hcr
      generalize exI m a.lf a.lv n = ex at *
      by_cases c : (n : Int) = a.lv
      · have HWh : Hid (∀ w, Calls Try.prog 12 #[.int .i64 (wrap64 (a.lf * (fd m.rL n 0 - fd m.rL 0 0)))] w fun e w' => e = .returned (.int .i64 (wh ex)) ∧ w = w') := fun w => by rw [e1 c]; exact rwhole_at _ w
        have c' : ((n : Int) != a.lv) = false := by simpa using c
        have h9 := HW9.out
        clear e1 e2 c HW9
        generalize wh ex = z at *
        go_enter Try.func4, Try.ntmps4
        try dsimp only [List.append]
        go_wp2_with fail
        rw [← HW.out]
        clear HW
        refine Calls.mono HG.out ?_
        rintro e w1 ⟨rfl, k1⟩
        have HK1 : Hid (Kp W0 w1) := k1
        clear p0 p1 p2 p3 p4 p5 p6 p7 p8 q0 q1 q2 q3 q4 k1 HG
        obtain ⟨r1, r2⟩ := HP.out _ HK1.out
        obtain ⟨p0, p1, p2, p3, p4, p5, p6, p7, p8⟩ := r1.all
        obtain ⟨q0, q1, q2, q3, q4⟩ := r2.all
        clear r1 r2
        go_wp2_with fail
        refine Calls.mono (HC'.out _ HK1.out) ?_
        rintro e w2 ⟨rfl, k2⟩
        have K2 := HK1.out.trans k2
        clear k2 p0 p1 p2 p3 p4 p5 p6 p7 p8 q0 q1 q2 q3 q4
        obtain ⟨r1, r2⟩ := HP.out _ K2
        obtain ⟨p0, p1, p2, p3, p4, p5, p6, p7, p8⟩ := r1.all
        obtain ⟨q0, q1, q2, q3, q4⟩ := r2.all
        clear r1 r2
        obtain ⟨b, off, e, hlb, l1, l0⟩ := lev_two (HM.out.kept K2) hnl
        rw [e] at p0
        generalize fd m.rL n 0 = x at *
        generalize fd m.rL 0 0 = y at *
        go_wp2_with fail
        go_region
        all_goals
          go_wp2_with fail
          go_region_held3 (fun w' => w'.cell? ⟨w.heap.size, 0, none⟩ = some (.slice m.aL m.lL m.cL) ∧ w'.cell? ⟨w.heap.size, 1, none⟩ = some (.slice m.aS m.lS m.cS) ∧ w'.cell? ⟨w.heap.size, 2, none⟩ = some (.slice m.aD m.lD m.cD) ∧ w'.cell? ⟨w.heap.size, 3, none⟩ = some (.int .i64 m.idle) ∧ w'.cell? ⟨w.heap.size, 4, none⟩ = some (.int .i64 m.crit) ∧ w'.cell? ⟨w.heap.size, 5, none⟩ = some (.int .i64 m.sw) ∧ w'.cell? ⟨w.heap.size, 6, none⟩ = some (.int .i64 m.swe) ∧ w'.cell? ⟨w.heap.size, 7, none⟩ = some (.int .i64 m.sems) ∧ w'.cell? ⟨w.heap.size, 8, none⟩ = some (.int .i64 m.hor) ∧ w'.cell? ⟨w.heap.size + 1, 0, none⟩ = some (.int .i64 a.pol) ∧ w'.cell? ⟨w.heap.size + 1, 1, none⟩ = some (.int .i64 a.st) ∧ w'.cell? ⟨w.heap.size + 1, 2, none⟩ = some (.int .i64 a.lf) ∧ w'.cell? ⟨w.heap.size + 1, 3, none⟩ = some (.int .i64 a.sl) ∧ w'.cell? ⟨w.heap.size + 1, 4, none⟩ = some (.int .i64 a.lv)) (go_keep) (first
            | (go_at_call 9; refine (ganswers_any _).mono ?_; rintro e w5 ⟨rfl, k5⟩; have K5 : Kp W0 w5 := K2.trans (by first | exact k5 | exact (TB.kp_drew _).trans k5 | exact (TB.kp_drew _).trans ((TB.kp_drew _).trans k5) | exact (TB.kp_drew _).trans ((TB.kp_drew _).trans ((TB.kp_drew _).trans k5))); clear k5; obtain ⟨r1, r2⟩ := HP.out _ K5; obtain ⟨z0, z1, z2, z3, z4, z5, z6, z7, z8⟩ := r1.all; obtain ⟨u0, u1, u2, u3, u4⟩ := r2.all; clear r1 r2)
            | (go_at_call 12; refine Calls.mono (HWh.out _) ?_; rintro e w7 ⟨rfl, rfl⟩)
            | fail)
          all_goals
            go_wp2
            go_ret
            exact ⟨by simp, HE.out _ (HK.out.trans (by first | exact K5 | exact K5.trans (TB.kp_drew _)))⟩
      · have HWh : Hid (∀ w, Calls Try.prog 12 #[.int .i64 (wrap64 (wrap64 (a.lf * (fd m.rL n 0 - fd m.rL 0 0)) + m.sw))] w fun e w' => e = .returned (.int .i64 (wh ex)) ∧ w = w') := fun w => by rw [e2 c]; exact rwhole_at _ w
        have c' : ((n : Int) != a.lv) = true := by simpa using c
        have h9 := HW9.out
        clear e1 e2 c HW9
        generalize wh ex = z at *
        go_enter Try.func4, Try.ntmps4
        try dsimp only [List.append]
        go_wp2_with fail
        rw [← HW.out]
        clear HW
        refine Calls.mono HG.out ?_
        rintro e w1 ⟨rfl, k1⟩
        have HK1 : Hid (Kp W0 w1) := k1
        clear p0 p1 p2 p3 p4 p5 p6 p7 p8 q0 q1 q2 q3 q4 k1 HG
        obtain ⟨r1, r2⟩ := HP.out _ HK1.out
        obtain ⟨p0, p1, p2, p3, p4, p5, p6, p7, p8⟩ := r1.all
        obtain ⟨q0, q1, q2, q3, q4⟩ := r2.all
        clear r1 r2
        go_wp2_with fail
        refine Calls.mono (HC'.out _ HK1.out) ?_
        rintro e w2 ⟨rfl, k2⟩
        have K2 := HK1.out.trans k2
        clear k2 p0 p1 p2 p3 p4 p5 p6 p7 p8 q0 q1 q2 q3 q4
        obtain ⟨r1, r2⟩ := HP.out _ K2
        obtain ⟨p0, p1, p2, p3, p4, p5, p6, p7, p8⟩ := r1.all
        obtain ⟨q0, q1, q2, q3, q4⟩ := r2.all
        clear r1 r2
        obtain ⟨b, off, e, hlb, l1, l0⟩ := lev_two (HM.out.kept K2) hnl
        rw [e] at p0
        generalize fd m.rL n 0 = x at *
        generalize fd m.rL 0 0 = y at *
        go_wp2_with fail
        go_region
        all_goals
          go_wp2_with fail
          go_region_held3 (fun w' => w'.cell? ⟨w.heap.size, 0, none⟩ = some (.slice m.aL m.lL m.cL) ∧ w'.cell? ⟨w.heap.size, 1, none⟩ = some (.slice m.aS m.lS m.cS) ∧ w'.cell? ⟨w.heap.size, 2, none⟩ = some (.slice m.aD m.lD m.cD) ∧ w'.cell? ⟨w.heap.size, 3, none⟩ = some (.int .i64 m.idle) ∧ w'.cell? ⟨w.heap.size, 4, none⟩ = some (.int .i64 m.crit) ∧ w'.cell? ⟨w.heap.size, 5, none⟩ = some (.int .i64 m.sw) ∧ w'.cell? ⟨w.heap.size, 6, none⟩ = some (.int .i64 m.swe) ∧ w'.cell? ⟨w.heap.size, 7, none⟩ = some (.int .i64 m.sems) ∧ w'.cell? ⟨w.heap.size, 8, none⟩ = some (.int .i64 m.hor) ∧ w'.cell? ⟨w.heap.size + 1, 0, none⟩ = some (.int .i64 a.pol) ∧ w'.cell? ⟨w.heap.size + 1, 1, none⟩ = some (.int .i64 a.st) ∧ w'.cell? ⟨w.heap.size + 1, 2, none⟩ = some (.int .i64 a.lf) ∧ w'.cell? ⟨w.heap.size + 1, 3, none⟩ = some (.int .i64 a.sl) ∧ w'.cell? ⟨w.heap.size + 1, 4, none⟩ = some (.int .i64 a.lv)) (go_keep) (first
            | (go_at_call 9; refine (ganswers_any _).mono ?_; rintro e w5 ⟨rfl, k5⟩; have K5 : Kp W0 w5 := K2.trans (by first | exact k5 | exact (TB.kp_drew _).trans k5 | exact (TB.kp_drew _).trans ((TB.kp_drew _).trans k5) | exact (TB.kp_drew _).trans ((TB.kp_drew _).trans ((TB.kp_drew _).trans k5))); clear k5; obtain ⟨r1, r2⟩ := HP.out _ K5; obtain ⟨z0, z1, z2, z3, z4, z5, z6, z7, z8⟩ := r1.all; obtain ⟨u0, u1, u2, u3, u4⟩ := r2.all; clear r1 r2)
            | (go_at_call 12; refine Calls.mono (HWh.out _) ?_; rintro e w7 ⟨rfl, rfl⟩)
            | fail)
          all_goals
            go_wp2
            go_ret
            exact ⟨by simp, HE.out _ (HK.out.trans (by first | exact K5 | exact K5.trans (TB.kp_drew _)))⟩

theorem governTime_walk (aL : Option Addr) (lL cL : Nat) (rL : List (List Int)) (aS : Option Addr) (lS cS : Nat) (rS : List (List Int)) (aD : Option Addr) (lD cD : Nat) (rD : List (List Int)) (idle crit sw swe sems hor : Int) (a : Ak) (w : World)
    (hm : Mach w aL lL rL aS lS rS aD lD rD) (ha : I64 a.sl) :
    Calls Try.prog 4 #[pv aL lL cL aS lS cS aD lD cD idle crit sw swe sems hor, a.v] w fun e w' => e = .returned (.bool true) ∧ Below w.heap.size w w' :=
  governTime_go ⟨aL, lL, cL, rL, aS, lS, cS, rS, aD, lD, cD, rD, idle, crit, sw, swe, sems, hor⟩ a w hm ha

end Go.Proofs.Ytlhacdbeadchjaa.GV
