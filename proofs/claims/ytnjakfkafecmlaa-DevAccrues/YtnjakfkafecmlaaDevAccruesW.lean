/- The walk of DevAccrues. -/
import Derived.Test.YtnjakfkafecmlaaDevAccP
namespace Go.Proofs.Ytnjakfkafecmlaa.DV
open Go.ChangeShapes Go.WideShapes Go.ChangeAt Go.RowKit Go.Proofs.Ytnjakfkafecmlaa.AR Go.Proofs.Ytnjakfkafecmlaa.TB

set_option maxHeartbeats 8000000 in
theorem devAccrues_walk (on off down up downE upE even f u now : Int) (w : World) (_ : (Lit.int .i64 now).wf = true) :
    Calls Try.prog 7 #[.agg #[.int .i64 on, .int .i64 off, .int .i64 down, .int .i64 up, .int .i64 downE, .int .i64 upE, .int .i64 even], .agg #[.int .i64 f, .int .i64 u], .int .i64 now] w
      fun e w' => e = .returned (.bool true) ∧ Below w.heap.size w w' := by
  have HE : Hid (∀ w', Kp w w' → Below w.heap.size w w') := fun w' q => q
  skip
  obtain ⟨W0, HW⟩ : ∃ W0, Hid (W0 = (w.alloc (.cells #[.int .i64 on, .int .i64 off, .int .i64 down, .int .i64 up, .int .i64 downE, .int .i64 upE, .int .i64 even] 23)).alloc (.cells #[.int .i64 f, .int .i64 u] 25)) := ⟨_, rfl⟩
  obtain ⟨k0, D0, X0⟩ := two_boxes HW.out
  have HR : Hid (∀ W, Calls Try.prog 9 #[.agg #[.int .i64 on, .int .i64 off, .int .i64 down, .int .i64 up, .int .i64 downE, .int .i64 upE, .int .i64 even], .agg #[.int .i64 f, .int .i64 u]] W fun e w' => e = .returned (.bool (awayB on off down up downE upE even && rxB down up f u)) ∧ Kp W w') := fun W => right_any on off down up downE upE even f u W
  have HB : Hid (∀ W, Calls Try.prog 11 #[] W fun e w' => e = .returned (.bool true) ∧ Kp W w') := answers_any
  obtain ⟨r, hr⟩ : ∃ r, (awayB on off down up downE upE even && rxB down up f u) = r := ⟨_, rfl⟩
  rw [hr] at HR
  cases r
  · clear hr
    go_enter Try.func7, Try.ntmps7
    try dsimp only [List.append]
    go_wp2_with (first
      | (go_at_call 9; rw [← HW.out]; refine (HR.out _).mono ?_; rintro e w1 ⟨rfl, k1⟩; have K1 := k0.trans k1; obtain ⟨x0, x1⟩ := (X0.kp k1).all)
      | (go_at_call 11; refine (HB.out _).mono ?_; rintro e w2 ⟨rfl, k2⟩; have K2 := K1.trans k2)
      | fail)
    go_ret
    exact ⟨rfl, HE.out _ K2⟩
  · obtain ⟨ho, hO, hd, hu, hde, hue, hev, hf, hv, hfu⟩ := right_facts hr
    clear hr
    by_cases c1 : now < 0
    · clear ho hO hd hu hde hue hev hf hv hfu
      go_enter Try.func7, Try.ntmps7
      try dsimp only [List.append]
      go_wp2_with (first
        | (go_at_call 9; rw [← HW.out]; refine (HR.out _).mono ?_; rintro e w1 ⟨rfl, k1⟩; have K1 := k0.trans k1; obtain ⟨x0, x1⟩ := (X0.kp k1).all)
        | (go_at_call 11; refine (HB.out _).mono ?_; rintro e w2 ⟨rfl, k2⟩; have K2 := K1.trans k2)
        | fail)
      go_ret
      exact ⟨rfl, HE.out _ K2⟩
    · by_cases c2 : 1099511627776 ≤ now
      · clear ho hO hd hu hde hue hev hf hv hfu
        go_enter Try.func7, Try.ntmps7
        try dsimp only [List.append]
        go_wp2_with (first
          | (go_at_call 9; rw [← HW.out]; refine (HR.out _).mono ?_; rintro e w1 ⟨rfl, k1⟩; have K1 := k0.trans k1; obtain ⟨x0, x1⟩ := (X0.kp k1).all)
          | (go_at_call 11; refine (HB.out _).mono ?_; rintro e w2 ⟨rfl, k2⟩; have K2 := K1.trans k2)
          | fail)
        go_ret
        exact ⟨rfl, HE.out _ K2⟩
      · by_cases c3 : now < f
        · clear ho hO hd hu hde hue hev hf hv hfu
          go_enter Try.func7, Try.ntmps7
          try dsimp only [List.append]
          go_wp2_with (first
            | (go_at_call 9; rw [← HW.out]; refine (HR.out _).mono ?_; rintro e w1 ⟨rfl, k1⟩; have K1 := k0.trans k1; obtain ⟨x0, x1⟩ := (X0.kp k1).all)
            | (go_at_call 11; refine (HB.out _).mono ?_; rintro e w2 ⟨rfl, k2⟩; have K2 := K1.trans k2)
            | fail)
          go_ret
          exact ⟨rfl, HE.out _ K2⟩
        · have hn : Mo now := by unfold Mo; omega
          have hn1 : Mo (now + 1) := by unfold Mo; omega
          obtain ⟨r1, s1⟩ := wr (x := now + 1) (by omega)
          have HS : Hid (∀ W, Calls Try.prog 12 #[.agg #[.int .i64 on, .int .i64 off, .int .i64 down, .int .i64 up, .int .i64 downE, .int .i64 upE, .int .i64 even], .agg #[.int .i64 f, .int .i64 u], .int .i64 now] W fun e w' => e = .returned (.int .i64 (stI down up f u now)) ∧ Kp W w') := fun W => state_any on off down up downE upE even f u now W hd hu hf hv
          have HE1 : Hid (∀ W, Calls Try.prog 19 #[.agg #[.int .i64 on, .int .i64 off, .int .i64 down, .int .i64 up, .int .i64 downE, .int .i64 upE, .int .i64 even], .agg #[.int .i64 f, .int .i64 u], .int .i64 (now + 1)] W fun e w' => e = .returned (.int .i64 (enI on off down up downE upE f u (now + 1))) ∧ Kp W w') := fun W => energy_any on off down up downE upE even f u (now + 1) W ho hO hd hu hde hue hf hv hn1
          have HE0 : Hid (∀ W, Calls Try.prog 19 #[.agg #[.int .i64 on, .int .i64 off, .int .i64 down, .int .i64 up, .int .i64 downE, .int .i64 upE, .int .i64 even], .agg #[.int .i64 f, .int .i64 u], .int .i64 now] W fun e w' => e = .returned (.int .i64 (enI on off down up downE upE f u now)) ∧ Kp W w') := fun W => energy_any on off down up downE upE even f u now W ho hO hd hu hde hue hf hv hn
          have HF : Hid (∀ W, Calls Try.prog 13 #[.agg #[.int .i64 f, .int .i64 u]] W fun e w' => e = .returned (.agg #[.int .i64 f, .int .i64 u]) ∧ Kp W w') := fun W => from_any f u W
          have EN : ∀ w, (Op.equalIn 10000 25 (.agg #[.int .i64 f, .int .i64 u]) (.agg #[.int .i64 0, .int .i64 0])).run Try.prog w = .ok (nvB f u) w := fun w => eq2r f u 0 0 w
          have u1 : wrap64 (u - up) = u - up := IntWalk.wrap64_in _ (by unfold Mo at *; omega)
          have u2 : wrap64 (u - up - 1) = u - up - 1 := IntWalk.wrap64_in _ (by unfold Mo at *; omega)
          have u3 : wrap64 (off + upE) = off + upE := IntWalk.wrap64_in _ (by omega)
          have u4 : wrap64 upE = upE := IntWalk.wrap64_in _ (by omega)
          have z1 := c1
          have z2 := c2
          have z3 := c3
          by_cases hz : f = 0 ∧ u = 0
          · have st : stI down up f u now = 1 := if_pos (.inl hz)
            have da := acc_never (on := on) (off := off) (down := down) (up := up) (downE := downE) (upE := upE) (now := now) hz
            have nv := nvB_t.2 hz
            rw [nv] at EN
            rw [st] at HS
            generalize enI on off down up downE upE f u (now + 1) = E1 at *
            generalize enI on off down up downE upE f u now = E0 at *
            have t1 : wrap64 (E1 - E0) = on := by rw [da]; exact IntWalk.wrap64_in _ (by omega)
            have t2 : IntKind.i64.wrap (E1 - E0) = on := (IntWalk.i64_left _).trans t1
            clear da st nv hz ho hO hd hu hde hue hev hf hv hfu hn hn1
            go_enter Try.func7, Try.ntmps7
            try dsimp only [List.append]
            go_wp2_with (first
              | (go_at_call 9; rw [← HW.out]; refine (HR.out _).mono ?_; rintro e w1 ⟨rfl, k1⟩; have K1 := k0.trans k1; have D1 := D0.kp k1; have X1 := X0.kp k1; obtain ⟨d0, d1, d2, d3, d4, d5, d6⟩ := D1.all; obtain ⟨x0, x1⟩ := X1.all)
              | fail)
            clear HR D0 X0 k0 k1 HW
            go_region_held3 (fun w' => w'.cell? ⟨w.heap.size, 0, none⟩ = some (.int .i64 on) ∧ w'.cell? ⟨w.heap.size, 1, none⟩ = some (.int .i64 off) ∧ w'.cell? ⟨w.heap.size, 2, none⟩ = some (.int .i64 down) ∧ w'.cell? ⟨w.heap.size, 3, none⟩ = some (.int .i64 up) ∧ w'.cell? ⟨w.heap.size, 4, none⟩ = some (.int .i64 downE) ∧ w'.cell? ⟨w.heap.size, 5, none⟩ = some (.int .i64 upE) ∧ w'.cell? ⟨w.heap.size, 6, none⟩ = some (.int .i64 even) ∧ w'.cell? ⟨w.heap.size + 1, 0, none⟩ = some (.int .i64 f) ∧ w'.cell? ⟨w.heap.size + 1, 1, none⟩ = some (.int .i64 u)) (go_keep) (first
              | (go_at_call 13; refine (HF.out _).mono ?_; rintro e w3 ⟨rfl, k3⟩; have J : Kp w1 w3 := ⟨k3.os, k3.tape, k3.output, k3.size, k3.block⟩; clear k3; obtain ⟨d0, d1, d2, d3, d4, d5, d6⟩ := (D1.kp J).all; obtain ⟨x0, x1⟩ := (X1.kp J).all)
              | (go_at_call 12; refine (HS.out _).mono ?_; rintro e w4 ⟨rfl, k4⟩; have J : Kp w1 w4 := J.trans k4; clear k4; obtain ⟨d0, d1, d2, d3, d4, d5, d6⟩ := (D1.kp J).all; obtain ⟨x0, x1⟩ := (X1.kp J).all)
              | fail)
            all_goals
              have K4 := K1.trans J
              have D4 := D1.kp J
              have X4 := X1.kp J
              clear J D1 X1 K1 d0 d1 d2 d3 d4 d5 d6 x0 x1 HS
              obtain ⟨d0, d1, d2, d3, d4, d5, d6⟩ := D4.all
              obtain ⟨x0, x1⟩ := X4.all
              go_wp2_with fail
              go_region_held3 (fun w' => w'.cell? ⟨w.heap.size, 0, none⟩ = some (.int .i64 on) ∧ w'.cell? ⟨w.heap.size, 1, none⟩ = some (.int .i64 off) ∧ w'.cell? ⟨w.heap.size, 2, none⟩ = some (.int .i64 down) ∧ w'.cell? ⟨w.heap.size, 3, none⟩ = some (.int .i64 up) ∧ w'.cell? ⟨w.heap.size, 4, none⟩ = some (.int .i64 downE) ∧ w'.cell? ⟨w.heap.size, 5, none⟩ = some (.int .i64 upE) ∧ w'.cell? ⟨w.heap.size, 6, none⟩ = some (.int .i64 even) ∧ w'.cell? ⟨w.heap.size + 1, 0, none⟩ = some (.int .i64 f) ∧ w'.cell? ⟨w.heap.size + 1, 1, none⟩ = some (.int .i64 u)) (go_keep) (first
                | (go_at_call 11; refine (HB.out _).mono ?_; rintro e w5 ⟨rfl, k5⟩; have J : Kp w4 w5 := ⟨k5.os, k5.tape, k5.output, k5.size, k5.block⟩; clear k5; obtain ⟨d0, d1, d2, d3, d4, d5, d6⟩ := (D4.kp J).all; obtain ⟨x0, x1⟩ := (X4.kp J).all)
                | (go_at_call 13; refine (HF.out _).mono ?_; rintro e w6 ⟨rfl, k6⟩; have J := J.trans k6; clear k6; obtain ⟨d0, d1, d2, d3, d4, d5, d6⟩ := (D4.kp J).all; obtain ⟨x0, x1⟩ := (X4.kp J).all)
                | (go_at_call 19; refine (HE1.out _).mono ?_; rintro e w7 ⟨rfl, k7⟩; have J := J.trans k7; clear k7 HE1; obtain ⟨d0, d1, d2, d3, d4, d5, d6⟩ := (D4.kp J).all; obtain ⟨x0, x1⟩ := (X4.kp J).all)
                | (go_at_call 19; refine (HE0.out _).mono ?_; rintro e w8 ⟨rfl, k8⟩; have J := J.trans k8; clear k8; obtain ⟨d0, d1, d2, d3, d4, d5, d6⟩ := (D4.kp J).all; obtain ⟨x0, x1⟩ := (X4.kp J).all)
                | fail)
              all_goals
                go_wp2
                go_ret
                exact ⟨rfl, HE.out _ (K4.trans J)⟩
          · have da := acc_was (on := on) (off := off) (downE := downE) (upE := upE) hz (by omega) hd.1 hu.1 (by omega : f ≤ now)
            have nv := nvB_f.2 hz
            rw [nv] at EN
            generalize enI on off down up downE upE f u (now + 1) = E1 at *
            generalize enI on off down up downE upE f u now = E0 at *
            generalize stI down up f u now = st at *
            rcases da with ⟨_, rfl, b, da⟩ | ⟨rfl, b, da⟩ | ⟨rfl, b, da⟩ | ⟨rfl, b, da⟩ | ⟨rfl, b, da⟩ | ⟨rfl, b, da⟩
            · have bb : (u - up - 1 == now) = false := by simpa using b
              have t1 : wrap64 (E1 - E0) = on := by rw [da]; exact IntWalk.wrap64_in _ (by omega)
              have t2 : IntKind.i64.wrap (E1 - E0) = on := (IntWalk.i64_left _).trans t1
              clear da b nv hz ho hO hd hu hde hue hev hf hv hfu hn hn1
              go_enter Try.func7, Try.ntmps7
              try dsimp only [List.append]
              go_wp2_with (first
                | (go_at_call 9; rw [← HW.out]; refine (HR.out _).mono ?_; rintro e w1 ⟨rfl, k1⟩; have K1 := k0.trans k1; have D1 := D0.kp k1; have X1 := X0.kp k1; obtain ⟨d0, d1, d2, d3, d4, d5, d6⟩ := D1.all; obtain ⟨x0, x1⟩ := X1.all)
                | fail)
              clear HR D0 X0 k0 k1 HW
              go_region_held3 (fun w' => w'.cell? ⟨w.heap.size, 0, none⟩ = some (.int .i64 on) ∧ w'.cell? ⟨w.heap.size, 1, none⟩ = some (.int .i64 off) ∧ w'.cell? ⟨w.heap.size, 2, none⟩ = some (.int .i64 down) ∧ w'.cell? ⟨w.heap.size, 3, none⟩ = some (.int .i64 up) ∧ w'.cell? ⟨w.heap.size, 4, none⟩ = some (.int .i64 downE) ∧ w'.cell? ⟨w.heap.size, 5, none⟩ = some (.int .i64 upE) ∧ w'.cell? ⟨w.heap.size, 6, none⟩ = some (.int .i64 even) ∧ w'.cell? ⟨w.heap.size + 1, 0, none⟩ = some (.int .i64 f) ∧ w'.cell? ⟨w.heap.size + 1, 1, none⟩ = some (.int .i64 u)) (go_keep) (first
                | (go_at_call 13; refine (HF.out _).mono ?_; rintro e w3 ⟨rfl, k3⟩; have J : Kp w1 w3 := ⟨k3.os, k3.tape, k3.output, k3.size, k3.block⟩; clear k3; obtain ⟨d0, d1, d2, d3, d4, d5, d6⟩ := (D1.kp J).all; obtain ⟨x0, x1⟩ := (X1.kp J).all)
                | (go_at_call 12; refine (HS.out _).mono ?_; rintro e w4 ⟨rfl, k4⟩; have J : Kp w1 w4 := J.trans k4; clear k4; obtain ⟨d0, d1, d2, d3, d4, d5, d6⟩ := (D1.kp J).all; obtain ⟨x0, x1⟩ := (X1.kp J).all)
                | fail)
              all_goals
                have K4 := K1.trans J
                have D4 := D1.kp J
                have X4 := X1.kp J
                clear J D1 X1 K1 d0 d1 d2 d3 d4 d5 d6 x0 x1 HS
                obtain ⟨d0, d1, d2, d3, d4, d5, d6⟩ := D4.all
                obtain ⟨x0, x1⟩ := X4.all
                go_wp2_with fail
                go_region_held3 (fun w' => w'.cell? ⟨w.heap.size, 0, none⟩ = some (.int .i64 on) ∧ w'.cell? ⟨w.heap.size, 1, none⟩ = some (.int .i64 off) ∧ w'.cell? ⟨w.heap.size, 2, none⟩ = some (.int .i64 down) ∧ w'.cell? ⟨w.heap.size, 3, none⟩ = some (.int .i64 up) ∧ w'.cell? ⟨w.heap.size, 4, none⟩ = some (.int .i64 downE) ∧ w'.cell? ⟨w.heap.size, 5, none⟩ = some (.int .i64 upE) ∧ w'.cell? ⟨w.heap.size, 6, none⟩ = some (.int .i64 even) ∧ w'.cell? ⟨w.heap.size + 1, 0, none⟩ = some (.int .i64 f) ∧ w'.cell? ⟨w.heap.size + 1, 1, none⟩ = some (.int .i64 u)) (go_keep) (first
                  | (go_at_call 11; refine (HB.out _).mono ?_; rintro e w5 ⟨rfl, k5⟩; have J : Kp w4 w5 := ⟨k5.os, k5.tape, k5.output, k5.size, k5.block⟩; clear k5; obtain ⟨d0, d1, d2, d3, d4, d5, d6⟩ := (D4.kp J).all; obtain ⟨x0, x1⟩ := (X4.kp J).all)
                  | (go_at_call 13; refine (HF.out _).mono ?_; rintro e w6 ⟨rfl, k6⟩; have J := J.trans k6; clear k6; obtain ⟨d0, d1, d2, d3, d4, d5, d6⟩ := (D4.kp J).all; obtain ⟨x0, x1⟩ := (X4.kp J).all)
                  | (go_at_call 19; refine (HE1.out _).mono ?_; rintro e w7 ⟨rfl, k7⟩; have J := J.trans k7; clear k7 HE1; obtain ⟨d0, d1, d2, d3, d4, d5, d6⟩ := (D4.kp J).all; obtain ⟨x0, x1⟩ := (X4.kp J).all)
                  | (go_at_call 19; refine (HE0.out _).mono ?_; rintro e w8 ⟨rfl, k8⟩; have J := J.trans k8; clear k8; obtain ⟨d0, d1, d2, d3, d4, d5, d6⟩ := (D4.kp J).all; obtain ⟨x0, x1⟩ := (X4.kp J).all)
                  | fail)
                all_goals
                  go_wp2
                  go_ret
                  exact ⟨rfl, HE.out _ (K4.trans J)⟩
            · have bb : (u - up - 1 == now) = false := by simpa using b
              have t1 : wrap64 (E1 - E0) = 0 := by rw [da]; exact IntWalk.wrap64_in _ (by omega)
              have t2 : IntKind.i64.wrap (E1 - E0) = 0 := (IntWalk.i64_left _).trans t1
              clear da b nv hz ho hO hd hu hde hue hev hf hv hfu hn hn1
              go_enter Try.func7, Try.ntmps7
              try dsimp only [List.append]
              go_wp2_with (first
                | (go_at_call 9; rw [← HW.out]; refine (HR.out _).mono ?_; rintro e w1 ⟨rfl, k1⟩; have K1 := k0.trans k1; have D1 := D0.kp k1; have X1 := X0.kp k1; obtain ⟨d0, d1, d2, d3, d4, d5, d6⟩ := D1.all; obtain ⟨x0, x1⟩ := X1.all)
                | fail)
              clear HR D0 X0 k0 k1 HW
              go_region_held3 (fun w' => w'.cell? ⟨w.heap.size, 0, none⟩ = some (.int .i64 on) ∧ w'.cell? ⟨w.heap.size, 1, none⟩ = some (.int .i64 off) ∧ w'.cell? ⟨w.heap.size, 2, none⟩ = some (.int .i64 down) ∧ w'.cell? ⟨w.heap.size, 3, none⟩ = some (.int .i64 up) ∧ w'.cell? ⟨w.heap.size, 4, none⟩ = some (.int .i64 downE) ∧ w'.cell? ⟨w.heap.size, 5, none⟩ = some (.int .i64 upE) ∧ w'.cell? ⟨w.heap.size, 6, none⟩ = some (.int .i64 even) ∧ w'.cell? ⟨w.heap.size + 1, 0, none⟩ = some (.int .i64 f) ∧ w'.cell? ⟨w.heap.size + 1, 1, none⟩ = some (.int .i64 u)) (go_keep) (first
                | (go_at_call 13; refine (HF.out _).mono ?_; rintro e w3 ⟨rfl, k3⟩; have J : Kp w1 w3 := ⟨k3.os, k3.tape, k3.output, k3.size, k3.block⟩; clear k3; obtain ⟨d0, d1, d2, d3, d4, d5, d6⟩ := (D1.kp J).all; obtain ⟨x0, x1⟩ := (X1.kp J).all)
                | (go_at_call 12; refine (HS.out _).mono ?_; rintro e w4 ⟨rfl, k4⟩; have J : Kp w1 w4 := J.trans k4; clear k4; obtain ⟨d0, d1, d2, d3, d4, d5, d6⟩ := (D1.kp J).all; obtain ⟨x0, x1⟩ := (X1.kp J).all)
                | fail)
              all_goals
                have K4 := K1.trans J
                have D4 := D1.kp J
                have X4 := X1.kp J
                clear J D1 X1 K1 d0 d1 d2 d3 d4 d5 d6 x0 x1 HS
                obtain ⟨d0, d1, d2, d3, d4, d5, d6⟩ := D4.all
                obtain ⟨x0, x1⟩ := X4.all
                go_wp2_with fail
                go_region_held3 (fun w' => w'.cell? ⟨w.heap.size, 0, none⟩ = some (.int .i64 on) ∧ w'.cell? ⟨w.heap.size, 1, none⟩ = some (.int .i64 off) ∧ w'.cell? ⟨w.heap.size, 2, none⟩ = some (.int .i64 down) ∧ w'.cell? ⟨w.heap.size, 3, none⟩ = some (.int .i64 up) ∧ w'.cell? ⟨w.heap.size, 4, none⟩ = some (.int .i64 downE) ∧ w'.cell? ⟨w.heap.size, 5, none⟩ = some (.int .i64 upE) ∧ w'.cell? ⟨w.heap.size, 6, none⟩ = some (.int .i64 even) ∧ w'.cell? ⟨w.heap.size + 1, 0, none⟩ = some (.int .i64 f) ∧ w'.cell? ⟨w.heap.size + 1, 1, none⟩ = some (.int .i64 u)) (go_keep) (first
                  | (go_at_call 11; refine (HB.out _).mono ?_; rintro e w5 ⟨rfl, k5⟩; have J : Kp w4 w5 := ⟨k5.os, k5.tape, k5.output, k5.size, k5.block⟩; clear k5; obtain ⟨d0, d1, d2, d3, d4, d5, d6⟩ := (D4.kp J).all; obtain ⟨x0, x1⟩ := (X4.kp J).all)
                  | (go_at_call 13; refine (HF.out _).mono ?_; rintro e w6 ⟨rfl, k6⟩; have J := J.trans k6; clear k6; obtain ⟨d0, d1, d2, d3, d4, d5, d6⟩ := (D4.kp J).all; obtain ⟨x0, x1⟩ := (X4.kp J).all)
                  | (go_at_call 19; refine (HE1.out _).mono ?_; rintro e w7 ⟨rfl, k7⟩; have J := J.trans k7; clear k7 HE1; obtain ⟨d0, d1, d2, d3, d4, d5, d6⟩ := (D4.kp J).all; obtain ⟨x0, x1⟩ := (X4.kp J).all)
                  | (go_at_call 19; refine (HE0.out _).mono ?_; rintro e w8 ⟨rfl, k8⟩; have J := J.trans k8; clear k8; obtain ⟨d0, d1, d2, d3, d4, d5, d6⟩ := (D4.kp J).all; obtain ⟨x0, x1⟩ := (X4.kp J).all)
                  | fail)
                all_goals
                  go_wp2
                  go_ret
                  exact ⟨rfl, HE.out _ (K4.trans J)⟩
            · have bb : (u - up - 1 == now) = true := by simpa using b
              have t1 : wrap64 (E1 - E0) = upE := by rw [da]; exact IntWalk.wrap64_in _ (by omega)
              have t2 : IntKind.i64.wrap (E1 - E0) = upE := (IntWalk.i64_left _).trans t1
              clear da b nv hz ho hO hd hu hde hue hev hf hv hfu hn hn1
              go_enter Try.func7, Try.ntmps7
              try dsimp only [List.append]
              go_wp2_with (first
                | (go_at_call 9; rw [← HW.out]; refine (HR.out _).mono ?_; rintro e w1 ⟨rfl, k1⟩; have K1 := k0.trans k1; have D1 := D0.kp k1; have X1 := X0.kp k1; obtain ⟨d0, d1, d2, d3, d4, d5, d6⟩ := D1.all; obtain ⟨x0, x1⟩ := X1.all)
                | fail)
              clear HR D0 X0 k0 k1 HW
              go_region_held3 (fun w' => w'.cell? ⟨w.heap.size, 0, none⟩ = some (.int .i64 on) ∧ w'.cell? ⟨w.heap.size, 1, none⟩ = some (.int .i64 off) ∧ w'.cell? ⟨w.heap.size, 2, none⟩ = some (.int .i64 down) ∧ w'.cell? ⟨w.heap.size, 3, none⟩ = some (.int .i64 up) ∧ w'.cell? ⟨w.heap.size, 4, none⟩ = some (.int .i64 downE) ∧ w'.cell? ⟨w.heap.size, 5, none⟩ = some (.int .i64 upE) ∧ w'.cell? ⟨w.heap.size, 6, none⟩ = some (.int .i64 even) ∧ w'.cell? ⟨w.heap.size + 1, 0, none⟩ = some (.int .i64 f) ∧ w'.cell? ⟨w.heap.size + 1, 1, none⟩ = some (.int .i64 u)) (go_keep) (first
                | (go_at_call 13; refine (HF.out _).mono ?_; rintro e w3 ⟨rfl, k3⟩; have J : Kp w1 w3 := ⟨k3.os, k3.tape, k3.output, k3.size, k3.block⟩; clear k3; obtain ⟨d0, d1, d2, d3, d4, d5, d6⟩ := (D1.kp J).all; obtain ⟨x0, x1⟩ := (X1.kp J).all)
                | (go_at_call 12; refine (HS.out _).mono ?_; rintro e w4 ⟨rfl, k4⟩; have J : Kp w1 w4 := J.trans k4; clear k4; obtain ⟨d0, d1, d2, d3, d4, d5, d6⟩ := (D1.kp J).all; obtain ⟨x0, x1⟩ := (X1.kp J).all)
                | fail)
              all_goals
                have K4 := K1.trans J
                have D4 := D1.kp J
                have X4 := X1.kp J
                clear J D1 X1 K1 d0 d1 d2 d3 d4 d5 d6 x0 x1 HS
                obtain ⟨d0, d1, d2, d3, d4, d5, d6⟩ := D4.all
                obtain ⟨x0, x1⟩ := X4.all
                go_wp2_with fail
                go_region_held3 (fun w' => w'.cell? ⟨w.heap.size, 0, none⟩ = some (.int .i64 on) ∧ w'.cell? ⟨w.heap.size, 1, none⟩ = some (.int .i64 off) ∧ w'.cell? ⟨w.heap.size, 2, none⟩ = some (.int .i64 down) ∧ w'.cell? ⟨w.heap.size, 3, none⟩ = some (.int .i64 up) ∧ w'.cell? ⟨w.heap.size, 4, none⟩ = some (.int .i64 downE) ∧ w'.cell? ⟨w.heap.size, 5, none⟩ = some (.int .i64 upE) ∧ w'.cell? ⟨w.heap.size, 6, none⟩ = some (.int .i64 even) ∧ w'.cell? ⟨w.heap.size + 1, 0, none⟩ = some (.int .i64 f) ∧ w'.cell? ⟨w.heap.size + 1, 1, none⟩ = some (.int .i64 u)) (go_keep) (first
                  | (go_at_call 11; refine (HB.out _).mono ?_; rintro e w5 ⟨rfl, k5⟩; have J : Kp w4 w5 := ⟨k5.os, k5.tape, k5.output, k5.size, k5.block⟩; clear k5; obtain ⟨d0, d1, d2, d3, d4, d5, d6⟩ := (D4.kp J).all; obtain ⟨x0, x1⟩ := (X4.kp J).all)
                  | (go_at_call 13; refine (HF.out _).mono ?_; rintro e w6 ⟨rfl, k6⟩; have J := J.trans k6; clear k6; obtain ⟨d0, d1, d2, d3, d4, d5, d6⟩ := (D4.kp J).all; obtain ⟨x0, x1⟩ := (X4.kp J).all)
                  | (go_at_call 19; refine (HE1.out _).mono ?_; rintro e w7 ⟨rfl, k7⟩; have J := J.trans k7; clear k7 HE1; obtain ⟨d0, d1, d2, d3, d4, d5, d6⟩ := (D4.kp J).all; obtain ⟨x0, x1⟩ := (X4.kp J).all)
                  | (go_at_call 19; refine (HE0.out _).mono ?_; rintro e w8 ⟨rfl, k8⟩; have J := J.trans k8; clear k8; obtain ⟨d0, d1, d2, d3, d4, d5, d6⟩ := (D4.kp J).all; obtain ⟨x0, x1⟩ := (X4.kp J).all)
                  | fail)
                all_goals
                  go_wp2
                  go_ret
                  exact ⟨rfl, HE.out _ (K4.trans J)⟩
            · have bb : (u - up - 1 == now) = false := by simpa using b
              have t1 : wrap64 (E1 - E0) = off := by rw [da]; exact IntWalk.wrap64_in _ (by omega)
              have t2 : IntKind.i64.wrap (E1 - E0) = off := (IntWalk.i64_left _).trans t1
              clear da b nv hz ho hO hd hu hde hue hev hf hv hfu hn hn1
              go_enter Try.func7, Try.ntmps7
              try dsimp only [List.append]
              go_wp2_with (first
                | (go_at_call 9; rw [← HW.out]; refine (HR.out _).mono ?_; rintro e w1 ⟨rfl, k1⟩; have K1 := k0.trans k1; have D1 := D0.kp k1; have X1 := X0.kp k1; obtain ⟨d0, d1, d2, d3, d4, d5, d6⟩ := D1.all; obtain ⟨x0, x1⟩ := X1.all)
                | fail)
              clear HR D0 X0 k0 k1 HW
              go_region_held3 (fun w' => w'.cell? ⟨w.heap.size, 0, none⟩ = some (.int .i64 on) ∧ w'.cell? ⟨w.heap.size, 1, none⟩ = some (.int .i64 off) ∧ w'.cell? ⟨w.heap.size, 2, none⟩ = some (.int .i64 down) ∧ w'.cell? ⟨w.heap.size, 3, none⟩ = some (.int .i64 up) ∧ w'.cell? ⟨w.heap.size, 4, none⟩ = some (.int .i64 downE) ∧ w'.cell? ⟨w.heap.size, 5, none⟩ = some (.int .i64 upE) ∧ w'.cell? ⟨w.heap.size, 6, none⟩ = some (.int .i64 even) ∧ w'.cell? ⟨w.heap.size + 1, 0, none⟩ = some (.int .i64 f) ∧ w'.cell? ⟨w.heap.size + 1, 1, none⟩ = some (.int .i64 u)) (go_keep) (first
                | (go_at_call 13; refine (HF.out _).mono ?_; rintro e w3 ⟨rfl, k3⟩; have J : Kp w1 w3 := ⟨k3.os, k3.tape, k3.output, k3.size, k3.block⟩; clear k3; obtain ⟨d0, d1, d2, d3, d4, d5, d6⟩ := (D1.kp J).all; obtain ⟨x0, x1⟩ := (X1.kp J).all)
                | (go_at_call 12; refine (HS.out _).mono ?_; rintro e w4 ⟨rfl, k4⟩; have J : Kp w1 w4 := J.trans k4; clear k4; obtain ⟨d0, d1, d2, d3, d4, d5, d6⟩ := (D1.kp J).all; obtain ⟨x0, x1⟩ := (X1.kp J).all)
                | fail)
              all_goals
                have K4 := K1.trans J
                have D4 := D1.kp J
                have X4 := X1.kp J
                clear J D1 X1 K1 d0 d1 d2 d3 d4 d5 d6 x0 x1 HS
                obtain ⟨d0, d1, d2, d3, d4, d5, d6⟩ := D4.all
                obtain ⟨x0, x1⟩ := X4.all
                go_wp2_with fail
                go_region_held3 (fun w' => w'.cell? ⟨w.heap.size, 0, none⟩ = some (.int .i64 on) ∧ w'.cell? ⟨w.heap.size, 1, none⟩ = some (.int .i64 off) ∧ w'.cell? ⟨w.heap.size, 2, none⟩ = some (.int .i64 down) ∧ w'.cell? ⟨w.heap.size, 3, none⟩ = some (.int .i64 up) ∧ w'.cell? ⟨w.heap.size, 4, none⟩ = some (.int .i64 downE) ∧ w'.cell? ⟨w.heap.size, 5, none⟩ = some (.int .i64 upE) ∧ w'.cell? ⟨w.heap.size, 6, none⟩ = some (.int .i64 even) ∧ w'.cell? ⟨w.heap.size + 1, 0, none⟩ = some (.int .i64 f) ∧ w'.cell? ⟨w.heap.size + 1, 1, none⟩ = some (.int .i64 u)) (go_keep) (first
                  | (go_at_call 11; refine (HB.out _).mono ?_; rintro e w5 ⟨rfl, k5⟩; have J : Kp w4 w5 := ⟨k5.os, k5.tape, k5.output, k5.size, k5.block⟩; clear k5; obtain ⟨d0, d1, d2, d3, d4, d5, d6⟩ := (D4.kp J).all; obtain ⟨x0, x1⟩ := (X4.kp J).all)
                  | (go_at_call 13; refine (HF.out _).mono ?_; rintro e w6 ⟨rfl, k6⟩; have J := J.trans k6; clear k6; obtain ⟨d0, d1, d2, d3, d4, d5, d6⟩ := (D4.kp J).all; obtain ⟨x0, x1⟩ := (X4.kp J).all)
                  | (go_at_call 19; refine (HE1.out _).mono ?_; rintro e w7 ⟨rfl, k7⟩; have J := J.trans k7; clear k7 HE1; obtain ⟨d0, d1, d2, d3, d4, d5, d6⟩ := (D4.kp J).all; obtain ⟨x0, x1⟩ := (X4.kp J).all)
                  | (go_at_call 19; refine (HE0.out _).mono ?_; rintro e w8 ⟨rfl, k8⟩; have J := J.trans k8; clear k8; obtain ⟨d0, d1, d2, d3, d4, d5, d6⟩ := (D4.kp J).all; obtain ⟨x0, x1⟩ := (X4.kp J).all)
                  | fail)
                all_goals
                  go_wp2
                  go_ret
                  exact ⟨rfl, HE.out _ (K4.trans J)⟩
            · have bb : (u - up - 1 == now) = true := by simpa using b
              have t1 : wrap64 (E1 - E0) = off + upE := by rw [da]; exact IntWalk.wrap64_in _ (by omega)
              have t2 : IntKind.i64.wrap (E1 - E0) = off + upE := (IntWalk.i64_left _).trans t1
              clear da b nv hz ho hO hd hu hde hue hev hf hv hfu hn hn1
              go_enter Try.func7, Try.ntmps7
              try dsimp only [List.append]
              go_wp2_with (first
                | (go_at_call 9; rw [← HW.out]; refine (HR.out _).mono ?_; rintro e w1 ⟨rfl, k1⟩; have K1 := k0.trans k1; have D1 := D0.kp k1; have X1 := X0.kp k1; obtain ⟨d0, d1, d2, d3, d4, d5, d6⟩ := D1.all; obtain ⟨x0, x1⟩ := X1.all)
                | fail)
              clear HR D0 X0 k0 k1 HW
              go_region_held3 (fun w' => w'.cell? ⟨w.heap.size, 0, none⟩ = some (.int .i64 on) ∧ w'.cell? ⟨w.heap.size, 1, none⟩ = some (.int .i64 off) ∧ w'.cell? ⟨w.heap.size, 2, none⟩ = some (.int .i64 down) ∧ w'.cell? ⟨w.heap.size, 3, none⟩ = some (.int .i64 up) ∧ w'.cell? ⟨w.heap.size, 4, none⟩ = some (.int .i64 downE) ∧ w'.cell? ⟨w.heap.size, 5, none⟩ = some (.int .i64 upE) ∧ w'.cell? ⟨w.heap.size, 6, none⟩ = some (.int .i64 even) ∧ w'.cell? ⟨w.heap.size + 1, 0, none⟩ = some (.int .i64 f) ∧ w'.cell? ⟨w.heap.size + 1, 1, none⟩ = some (.int .i64 u)) (go_keep) (first
                | (go_at_call 13; refine (HF.out _).mono ?_; rintro e w3 ⟨rfl, k3⟩; have J : Kp w1 w3 := ⟨k3.os, k3.tape, k3.output, k3.size, k3.block⟩; clear k3; obtain ⟨d0, d1, d2, d3, d4, d5, d6⟩ := (D1.kp J).all; obtain ⟨x0, x1⟩ := (X1.kp J).all)
                | (go_at_call 12; refine (HS.out _).mono ?_; rintro e w4 ⟨rfl, k4⟩; have J : Kp w1 w4 := J.trans k4; clear k4; obtain ⟨d0, d1, d2, d3, d4, d5, d6⟩ := (D1.kp J).all; obtain ⟨x0, x1⟩ := (X1.kp J).all)
                | fail)
              all_goals
                have K4 := K1.trans J
                have D4 := D1.kp J
                have X4 := X1.kp J
                clear J D1 X1 K1 d0 d1 d2 d3 d4 d5 d6 x0 x1 HS
                obtain ⟨d0, d1, d2, d3, d4, d5, d6⟩ := D4.all
                obtain ⟨x0, x1⟩ := X4.all
                go_wp2_with fail
                go_region_held3 (fun w' => w'.cell? ⟨w.heap.size, 0, none⟩ = some (.int .i64 on) ∧ w'.cell? ⟨w.heap.size, 1, none⟩ = some (.int .i64 off) ∧ w'.cell? ⟨w.heap.size, 2, none⟩ = some (.int .i64 down) ∧ w'.cell? ⟨w.heap.size, 3, none⟩ = some (.int .i64 up) ∧ w'.cell? ⟨w.heap.size, 4, none⟩ = some (.int .i64 downE) ∧ w'.cell? ⟨w.heap.size, 5, none⟩ = some (.int .i64 upE) ∧ w'.cell? ⟨w.heap.size, 6, none⟩ = some (.int .i64 even) ∧ w'.cell? ⟨w.heap.size + 1, 0, none⟩ = some (.int .i64 f) ∧ w'.cell? ⟨w.heap.size + 1, 1, none⟩ = some (.int .i64 u)) (go_keep) (first
                  | (go_at_call 11; refine (HB.out _).mono ?_; rintro e w5 ⟨rfl, k5⟩; have J : Kp w4 w5 := ⟨k5.os, k5.tape, k5.output, k5.size, k5.block⟩; clear k5; obtain ⟨d0, d1, d2, d3, d4, d5, d6⟩ := (D4.kp J).all; obtain ⟨x0, x1⟩ := (X4.kp J).all)
                  | (go_at_call 13; refine (HF.out _).mono ?_; rintro e w6 ⟨rfl, k6⟩; have J := J.trans k6; clear k6; obtain ⟨d0, d1, d2, d3, d4, d5, d6⟩ := (D4.kp J).all; obtain ⟨x0, x1⟩ := (X4.kp J).all)
                  | (go_at_call 19; refine (HE1.out _).mono ?_; rintro e w7 ⟨rfl, k7⟩; have J := J.trans k7; clear k7 HE1; obtain ⟨d0, d1, d2, d3, d4, d5, d6⟩ := (D4.kp J).all; obtain ⟨x0, x1⟩ := (X4.kp J).all)
                  | (go_at_call 19; refine (HE0.out _).mono ?_; rintro e w8 ⟨rfl, k8⟩; have J := J.trans k8; clear k8; obtain ⟨d0, d1, d2, d3, d4, d5, d6⟩ := (D4.kp J).all; obtain ⟨x0, x1⟩ := (X4.kp J).all)
                  | fail)
                all_goals
                  go_wp2
                  go_ret
                  exact ⟨rfl, HE.out _ (K4.trans J)⟩
            · have bb : (u - up - 1 == now) = false := by simpa using b
              have t1 : wrap64 (E1 - E0) = 0 := by rw [da]; exact IntWalk.wrap64_in _ (by omega)
              have t2 : IntKind.i64.wrap (E1 - E0) = 0 := (IntWalk.i64_left _).trans t1
              clear da b nv hz ho hO hd hu hde hue hev hf hv hfu hn hn1
              go_enter Try.func7, Try.ntmps7
              try dsimp only [List.append]
              go_wp2_with (first
                | (go_at_call 9; rw [← HW.out]; refine (HR.out _).mono ?_; rintro e w1 ⟨rfl, k1⟩; have K1 := k0.trans k1; have D1 := D0.kp k1; have X1 := X0.kp k1; obtain ⟨d0, d1, d2, d3, d4, d5, d6⟩ := D1.all; obtain ⟨x0, x1⟩ := X1.all)
                | fail)
              clear HR D0 X0 k0 k1 HW
              go_region_held3 (fun w' => w'.cell? ⟨w.heap.size, 0, none⟩ = some (.int .i64 on) ∧ w'.cell? ⟨w.heap.size, 1, none⟩ = some (.int .i64 off) ∧ w'.cell? ⟨w.heap.size, 2, none⟩ = some (.int .i64 down) ∧ w'.cell? ⟨w.heap.size, 3, none⟩ = some (.int .i64 up) ∧ w'.cell? ⟨w.heap.size, 4, none⟩ = some (.int .i64 downE) ∧ w'.cell? ⟨w.heap.size, 5, none⟩ = some (.int .i64 upE) ∧ w'.cell? ⟨w.heap.size, 6, none⟩ = some (.int .i64 even) ∧ w'.cell? ⟨w.heap.size + 1, 0, none⟩ = some (.int .i64 f) ∧ w'.cell? ⟨w.heap.size + 1, 1, none⟩ = some (.int .i64 u)) (go_keep) (first
                | (go_at_call 13; refine (HF.out _).mono ?_; rintro e w3 ⟨rfl, k3⟩; have J : Kp w1 w3 := ⟨k3.os, k3.tape, k3.output, k3.size, k3.block⟩; clear k3; obtain ⟨d0, d1, d2, d3, d4, d5, d6⟩ := (D1.kp J).all; obtain ⟨x0, x1⟩ := (X1.kp J).all)
                | (go_at_call 12; refine (HS.out _).mono ?_; rintro e w4 ⟨rfl, k4⟩; have J : Kp w1 w4 := J.trans k4; clear k4; obtain ⟨d0, d1, d2, d3, d4, d5, d6⟩ := (D1.kp J).all; obtain ⟨x0, x1⟩ := (X1.kp J).all)
                | fail)
              all_goals
                have K4 := K1.trans J
                have D4 := D1.kp J
                have X4 := X1.kp J
                clear J D1 X1 K1 d0 d1 d2 d3 d4 d5 d6 x0 x1 HS
                obtain ⟨d0, d1, d2, d3, d4, d5, d6⟩ := D4.all
                obtain ⟨x0, x1⟩ := X4.all
                go_wp2_with fail
                go_region_held3 (fun w' => w'.cell? ⟨w.heap.size, 0, none⟩ = some (.int .i64 on) ∧ w'.cell? ⟨w.heap.size, 1, none⟩ = some (.int .i64 off) ∧ w'.cell? ⟨w.heap.size, 2, none⟩ = some (.int .i64 down) ∧ w'.cell? ⟨w.heap.size, 3, none⟩ = some (.int .i64 up) ∧ w'.cell? ⟨w.heap.size, 4, none⟩ = some (.int .i64 downE) ∧ w'.cell? ⟨w.heap.size, 5, none⟩ = some (.int .i64 upE) ∧ w'.cell? ⟨w.heap.size, 6, none⟩ = some (.int .i64 even) ∧ w'.cell? ⟨w.heap.size + 1, 0, none⟩ = some (.int .i64 f) ∧ w'.cell? ⟨w.heap.size + 1, 1, none⟩ = some (.int .i64 u)) (go_keep) (first
                  | (go_at_call 11; refine (HB.out _).mono ?_; rintro e w5 ⟨rfl, k5⟩; have J : Kp w4 w5 := ⟨k5.os, k5.tape, k5.output, k5.size, k5.block⟩; clear k5; obtain ⟨d0, d1, d2, d3, d4, d5, d6⟩ := (D4.kp J).all; obtain ⟨x0, x1⟩ := (X4.kp J).all)
                  | (go_at_call 13; refine (HF.out _).mono ?_; rintro e w6 ⟨rfl, k6⟩; have J := J.trans k6; clear k6; obtain ⟨d0, d1, d2, d3, d4, d5, d6⟩ := (D4.kp J).all; obtain ⟨x0, x1⟩ := (X4.kp J).all)
                  | (go_at_call 19; refine (HE1.out _).mono ?_; rintro e w7 ⟨rfl, k7⟩; have J := J.trans k7; clear k7 HE1; obtain ⟨d0, d1, d2, d3, d4, d5, d6⟩ := (D4.kp J).all; obtain ⟨x0, x1⟩ := (X4.kp J).all)
                  | (go_at_call 19; refine (HE0.out _).mono ?_; rintro e w8 ⟨rfl, k8⟩; have J := J.trans k8; clear k8; obtain ⟨d0, d1, d2, d3, d4, d5, d6⟩ := (D4.kp J).all; obtain ⟨x0, x1⟩ := (X4.kp J).all)
                  | fail)
                all_goals
                  go_wp2
                  go_ret
                  exact ⟨rfl, HE.out _ (K4.trans J)⟩

end Go.Proofs.Ytnjakfkafecmlaa.DV
