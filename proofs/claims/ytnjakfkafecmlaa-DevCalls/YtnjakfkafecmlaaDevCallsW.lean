/- The walk of DevCalls. -/
import Derived.Test.YtnjakfkafecmlaaDevFacts
namespace Go.Proofs.Ytnjakfkafecmlaa.DV
open Go.ChangeShapes Go.WideShapes Go.ChangeAt Go.RowKit Go.Proofs.Ytnjakfkafecmlaa.AR Go.Proofs.Ytnjakfkafecmlaa.TB

theorem cl_never {down up even f u now : Int} (h : u = 1099511627776) : clI down up even f u now = max (max (f + even) (now + up)) (f + down + up) := if_pos h
theorem cl_other {down up even f u now : Int} (h : ¬ u = 1099511627776) : clI down up even f u now = u := if_neg h
theorem st_end (down up f u : Int) : stI down up f u u = 1 := if_pos (.inr (.inr (Int.le_refl u)))

set_option maxHeartbeats 8000000 in
theorem devCalls_walk (on off down up downE upE even f u now : Int) (w : World) (_ : (Lit.int .i64 now).wf = true) :
    Calls Try.prog 5 #[.agg #[.int .i64 on, .int .i64 off, .int .i64 down, .int .i64 up, .int .i64 downE, .int .i64 upE, .int .i64 even], .agg #[.int .i64 f, .int .i64 u], .int .i64 now] w
      fun e w' => e = .returned (.bool true) ∧ Below w.heap.size w w' := by
  have HE : Hid (∀ w', Kp w w' → Below w.heap.size w w') := fun w' q => q
  obtain ⟨W0, HW⟩ : ∃ W0, Hid (W0 = (w.alloc (.cells #[.int .i64 on, .int .i64 off, .int .i64 down, .int .i64 up, .int .i64 downE, .int .i64 upE, .int .i64 even] 23)).alloc (.cells #[.int .i64 f, .int .i64 u] 25)) := ⟨_, rfl⟩
  obtain ⟨k0, D0, X0⟩ := two_boxes HW.out
  have HR : Hid (∀ W, Calls Try.prog 9 #[.agg #[.int .i64 on, .int .i64 off, .int .i64 down, .int .i64 up, .int .i64 downE, .int .i64 upE, .int .i64 even], .agg #[.int .i64 f, .int .i64 u]] W fun e w' => e = .returned (.bool (awayB on off down up downE upE even && rxB down up f u)) ∧ Kp W w') := fun W => right_any on off down up downE upE even f u W
  have HM : Hid (∀ W, Calls Try.prog 10 #[.int .i64 now] W fun e w' => e = .returned (.bool (moB now)) ∧ W = w') := fun W => moment_any now W
  have HB : Hid (∀ W, Calls Try.prog 11 #[] W fun e w' => e = .returned (.bool true) ∧ Kp W w') := answers_any
  obtain ⟨r, hr⟩ : ∃ r, (awayB on off down up downE upE even && rxB down up f u) = r := ⟨_, rfl⟩
  rw [hr] at HR
  obtain ⟨m, hm⟩ : ∃ m, moB now = m := ⟨_, rfl⟩
  rw [hm] at HM
  by_cases hall : (r && m) = true
  · rw [Bool.and_eq_true] at hall
    obtain ⟨rfl, rfl⟩ := hall
    obtain ⟨ho, hO, hd, hu, hde, hue, hev, hf, hv, hfu⟩ := right_facts hr
    have HA : Hid (∀ W, Calls Try.prog 17 #[.agg #[.int .i64 on, .int .i64 off, .int .i64 down, .int .i64 up, .int .i64 downE, .int .i64 upE, .int .i64 even], .agg #[.int .i64 f, .int .i64 u], .int .i64 now] W fun e w' => e = .returned (.agg #[.int .i64 f, .int .i64 (clI down up even f u now)]) ∧ Kp W w') := fun W => call_any on off down up downE upE even f u now W hd hu (by omega) hf (mo_of hm)
    have HC : Hid (∀ W, Calls Try.prog 18 #[.agg #[.int .i64 on, .int .i64 off, .int .i64 down, .int .i64 up, .int .i64 downE, .int .i64 upE, .int .i64 even], .agg #[.int .i64 f, .int .i64 u], .int .i64 now] W fun e w' => e = .returned (.agg #[.int .i64 f, .int .i64 (clI down up even f u now)]) ∧ Kp W w') := fun W => rcall_any on off down up downE upE even f u now W hd hu (by omega) hf (mo_of hm)
    have hn := moB_t.1 hm
    have hf0 : 0 ≤ f ∧ f ≤ 1099511627776 := by
      rw [Bool.and_eq_true] at hr
      exact (rxB_t.1 hr.2).1
    have HP : Hid (u = 1099511627776 → now ≤ 1073741824 → f ≤ 1073741824 → (∀ W, Calls Try.prog 12 #[.agg #[.int .i64 on, .int .i64 off, .int .i64 down, .int .i64 up, .int .i64 downE, .int .i64 upE, .int .i64 even], .agg #[.int .i64 f, .int .i64 (clI down up even f u now)], .int .i64 (clI down up even f u now)] W fun e w' => e = .returned (.int .i64 1) ∧ Kp W w') ∧ wrap64 (clI down up even f u now - f) = clI down up even f u now - f ∧ even ≤ clI down up even f u now - f ∧ wrap64 (clI down up even f u now - now) = clI down up even f u now - now ∧ up ≤ clI down up even f u now - now) := by
      intro q1 q2 q3
      have e := cl_never (down := down) (up := up) (even := even) (f := f) (now := now) q1
      have b : 0 ≤ clI down up even f u now ∧ clI down up even f u now ≤ 1073741824 + 16384 := by rw [e]; omega
      refine ⟨fun W => ?_, IntWalk.wrap64_in _ (by omega), by rw [e]; omega, IntWalk.wrap64_in _ (by omega), by rw [e]; omega⟩
      have := state_any on off down up downE upE even f (clI down up even f u now) (clI down up even f u now) W hd hu hf (by unfold Mo; omega)
      rw [st_end] at this
      exact this
    have HQ : Hid (¬ u = 1099511627776 → clI down up even f u now = u) := cl_other
    generalize clI down up even f u now = c at *
    clear hr hm ho hO hd hu hde hue hev hf hv hfu hn hf0
    have HF : Hid (∀ W, Calls Try.prog 13 #[.agg #[.int .i64 f, .int .i64 u]] W fun e w' => e = .returned (.agg #[.int .i64 f, .int .i64 u]) ∧ Kp W w') := fun W => from_any f u W
    have HG : Hid (∀ W, Calls Try.prog 13 #[.agg #[.int .i64 f, .int .i64 c]] W fun e w' => e = .returned (.agg #[.int .i64 f, .int .i64 c]) ∧ Kp W w') := fun W => from_any f c W
    have EQ : ∀ w, (Op.equalIn 10000 30 (.agg #[.int .i64 f, .int .i64 c]) (.agg #[.int .i64 f, .int .i64 c])).run Try.prog w = .ok true w := fun w => by rw [eq2d]; simp
    go_enter Try.func5, Try.ntmps5
    try dsimp only [List.append]
    go_wp2_with (first
      | (go_at_call 9; rw [← HW.out]; refine (HR.out _).mono ?_; rintro e w1 ⟨rfl, k1⟩; have K1 := k0.trans k1; have D1 := D0.kp k1; have X1 := X0.kp k1)
      | (go_at_call 10; refine (HM.out _).mono ?_; rintro e w2 ⟨rfl, rfl⟩; clear HM)
      | fail)
    clear HR D0 X0 k0 k1 HW
    obtain ⟨d0, d1, d2, d3, d4, d5, d6⟩ := D1.all
    obtain ⟨x0, x1⟩ := X1.all
    have n0 := World.new_ne w1 ⟨w.heap.size, 0, none⟩ d0
    have n1 := World.new_ne w1 ⟨w.heap.size + 1, 0, none⟩ x0
    go_region_held3 (fun w' => w'.cell? ⟨w.heap.size, 0, none⟩ = some (.int .i64 on) ∧ w'.cell? ⟨w.heap.size, 1, none⟩ = some (.int .i64 off) ∧ w'.cell? ⟨w.heap.size, 2, none⟩ = some (.int .i64 down) ∧ w'.cell? ⟨w.heap.size, 3, none⟩ = some (.int .i64 up) ∧ w'.cell? ⟨w.heap.size, 4, none⟩ = some (.int .i64 downE) ∧ w'.cell? ⟨w.heap.size, 5, none⟩ = some (.int .i64 upE) ∧ w'.cell? ⟨w.heap.size, 6, none⟩ = some (.int .i64 even) ∧
        w'.cell? ⟨w.heap.size + 1, 0, none⟩ = some (.int .i64 f) ∧ w'.cell? ⟨w.heap.size + 1, 1, none⟩ = some (.int .i64 u)) (go_keep) (first
      | (go_at_call 13; refine (HF.out _).mono ?_; rintro e w3 ⟨rfl, k3⟩; (first | (have N3 : B2 w3 w1.heap.size 30 0 0 := b2_new (w := w1) (w' := w3) ⟨k3.os, k3.tape, k3.output, k3.size, k3.block⟩; have J3 : Kp w1 w3 := ((Kp.refl w1).alloc (.cells #[.int .i64 0, .int .i64 0] 30)).trans ⟨k3.os, k3.tape, k3.output, k3.size, k3.block⟩) | (have J3 : Kp w1 w3 := ⟨k3.os, k3.tape, k3.output, k3.size, k3.block⟩)); clear k3; obtain ⟨a0, a1, a2, a3, a4, a5, a6⟩ := (D1.kp J3).all; obtain ⟨b0, b1⟩ := (X1.kp J3).all; have n2 := World.new_ne w3 ⟨w.heap.size, 0, none⟩ a0; have n3 := World.new_ne w3 ⟨w.heap.size + 1, 0, none⟩ b0)
      | (go_at_call 17; refine (HA.out _).mono ?_; rintro e w5 ⟨rfl, k5⟩; (first | (have N5 := N3.kp k5; have J5 : Kp w1 w5 := J3.trans k5; have ha5 : Hid (w1.heap.size ≤ w1.heap.size) := Nat.le_refl _; clear N3) | (have N5 : B2 w5 w3.heap.size 30 0 0 := b2_new (w := w3) (w' := w5) ⟨k5.os, k5.tape, k5.output, k5.size, k5.block⟩; have ha5 : Hid (w1.heap.size ≤ w3.heap.size) := J3.size; have J5 : Kp w1 w5 := (J3.alloc (.cells #[.int .i64 0, .int .i64 0] 30)).trans ⟨k5.os, k5.tape, k5.output, k5.size, k5.block⟩) | (have J5 : Kp w1 w5 := J3.trans ⟨k5.os, k5.tape, k5.output, k5.size, k5.block⟩)); clear k5; (first | (obtain ⟨y0, y1⟩ := N5.all; have g0 := N5.fr 0; have g1 := N5.fr 1) | skip); obtain ⟨p0, p1, p2, p3, p4, p5, p6⟩ := (D1.kp J5).all; obtain ⟨q0, q1⟩ := (X1.kp J5).all; have n4 := World.new_ne w5 ⟨w.heap.size, 0, none⟩ p0; have n5 := World.new_ne w5 ⟨w.heap.size + 1, 0, none⟩ q0)
      | fail)
    · clear n0 n1 n2 n3 n4 n5 a0 a1 a2 a3 a4 a5 a6 b0 b1 p0 p1 p2 p3 p4 p5 p6 q0 q1 d0 d1 d2 d3 d4 d5 d6 x0 x1 HA
      first
        | (have Y6 : B2 _ w1.heap.size 30 f c := N5.set f c; have J6 := set2_new J5 ha5.out f c; clear N5 ha5 y0 y1 g0 g1; generalize (w5.setCell ⟨w1.heap.size, 0, none⟩ (.int .i64 f)).setCell ⟨w1.heap.size, 1, none⟩ (.int .i64 c) = w6 at *; generalize w1.heap.size = gy at *)
        | (have Y6 : B2 _ w3.heap.size 30 f c := N5.set f c; have J6 := set2_new J5 ha5.out f c; clear N5 ha5 y0 y1 g0 g1; generalize (w5.setCell ⟨w3.heap.size, 0, none⟩ (.int .i64 f)).setCell ⟨w3.heap.size, 1, none⟩ (.int .i64 c) = w6 at *; generalize w3.heap.size = gy at *)
        | (have Y6 : B2 _ w5.heap.size 30 f c := b2_new (w := w5) (Kp.refl (w5.alloc (.cells #[.int .i64 f, .int .i64 c] 30))); have J6 := J5.alloc (.cells #[.int .i64 f, .int .i64 c] 30); generalize w5.alloc (.cells #[.int .i64 f, .int .i64 c] 30) = w6 at *; generalize w5.heap.size = gy at *)
      have D6 := D1.kp J6
      have X6 := X1.kp J6
      have K6 := K1.trans J6
      clear D1 X1 K1 J6 J5 J3
      obtain ⟨d0, d1, d2, d3, d4, d5, d6⟩ := D6.all
      obtain ⟨x0, x1⟩ := X6.all
      obtain ⟨y0, y1⟩ := Y6.all
      go_wp2_with fail
      go_region_held3 (fun w' => w'.cell? ⟨w.heap.size, 0, none⟩ = some (.int .i64 on) ∧ w'.cell? ⟨w.heap.size, 1, none⟩ = some (.int .i64 off) ∧ w'.cell? ⟨w.heap.size, 2, none⟩ = some (.int .i64 down) ∧ w'.cell? ⟨w.heap.size, 3, none⟩ = some (.int .i64 up) ∧ w'.cell? ⟨w.heap.size, 4, none⟩ = some (.int .i64 downE) ∧ w'.cell? ⟨w.heap.size, 5, none⟩ = some (.int .i64 upE) ∧ w'.cell? ⟨w.heap.size, 6, none⟩ = some (.int .i64 even) ∧ w'.cell? ⟨w.heap.size + 1, 0, none⟩ = some (.int .i64 f) ∧ w'.cell? ⟨w.heap.size + 1, 1, none⟩ = some (.int .i64 u) ∧ w'.cell? ⟨gy, 0, none⟩ = some (.int .i64 f) ∧ w'.cell? ⟨gy, 1, none⟩ = some (.int .i64 c)) (go_keep) (first
        | (go_at_call 18; refine (HC.out _).mono ?_; rintro e w7 ⟨rfl, k7⟩; have J7 : Kp w6 w7 := ⟨k7.os, k7.tape, k7.output, k7.size, k7.block⟩; clear k7; obtain ⟨a0, a1, a2, a3, a4, a5, a6⟩ := (D6.kp J7).all; obtain ⟨ax0, ax1⟩ := (X6.kp J7).all; obtain ⟨ay0, ay1⟩ := (Y6.kp J7).all)
        | (go_at_call 13; refine (HG.out _).mono ?_; rintro e w8 ⟨rfl, k8⟩; have J8 : Kp w6 w8 := J7.trans k8; clear k8; obtain ⟨b0, b1, b2, b3, b4, b5, b6⟩ := (D6.kp J8).all; obtain ⟨bx0, bx1⟩ := (X6.kp J8).all; obtain ⟨by0, by1⟩ := (Y6.kp J8).all)
        | fail)
      all_goals
        have D8 := D6.kp J8
        have X8 := X6.kp J8
        have Y8 := Y6.kp J8
        have K8 := K6.trans J8
        clear a0 a1 a2 a3 a4 a5 a6 ax0 ax1 ay0 ay1 b0 b1 b2 b3 b4 b5 b6 bx0 bx1 by0 by1 d0 d1 d2 d3 d4 d5 d6 x0 x1 y0 y1 J7 J8 D6 X6 Y6 K6 EQ HC HG
        obtain ⟨d0, d1, d2, d3, d4, d5, d6⟩ := D8.all
        obtain ⟨x0, x1⟩ := X8.all
        obtain ⟨y0, y1⟩ := Y8.all
        by_cases q1 : u = 1099511627776
        · have b1 : (u == 1099511627776) = true := by simpa using q1
          by_cases q2 : now ≤ 1073741824
          · by_cases q3 : f ≤ 1073741824
            · obtain ⟨HS, v1, v2, v3, v4⟩ := HP.out q1 q2 q3
              have HS2 : Hid (∀ W, _) := HS
              clear HS HP HQ q1 HF
              go_wp2_with (first
                | (go_at_call 11; refine (HB.out _).mono ?_; rintro e w9 ⟨rfl, k9⟩; clear d0 d1 d2 d3 d4 d5 d6 x0 x1 y0 y1; obtain ⟨a0, a1, a2, a3, a4, a5, a6⟩ := (D8.kp k9).all; obtain ⟨ax0, ax1⟩ := (X8.kp k9).all; obtain ⟨ay0, ay1⟩ := (Y8.kp k9).all; have K9 := K8.trans k9)
                | (go_at_call 12; refine (HS2.out _).mono ?_; rintro e wA ⟨rfl, kA⟩; have KA := K9.trans kA)
                | fail)
              go_ret
              exact ⟨rfl, HE.out _ KA⟩
            · clear HP HQ q1
              by_cases qc : c = u
              · have EX : ∀ w, (Op.equalIn 10000 30 (.agg #[.int .i64 f, .int .i64 c]) (.agg #[.int .i64 f, .int .i64 u])).run Try.prog w = .ok true w := fun w => by rw [eq2d]; simp [qc]
                clear qc
                go_wp2_with fail
                refine wp_region_noPanic ?_
                refine wp_region_held_drew (S := (fun w' => w'.cell? ⟨w.heap.size + 1, 0, none⟩ = some (.int .i64 f) ∧ w'.cell? ⟨w.heap.size + 1, 1, none⟩ = some (.int .i64 u) ∧ w'.cell? ⟨gy, 0, none⟩ = some (.int .i64 f) ∧ w'.cell? ⟨gy, 1, none⟩ = some (.int .i64 c))) (by kernel_rfl) ?_ (fun hHeld => ?_)
                · (try dsimp only); go_keep
                refine wpAnyH_ready (rs := [0]) (by kernel_rfl) (by simp) ?_
                refine AllReadyH.cons (o := Oper.mk (some 70) _ _ _ _ _) rfl (fun K hK => ?_) AllReadyH.nil
                go_simp
                refine (HB.out _).mono ?_
                rintro e w9 ⟨rfl, k9⟩
                have J9 : Kp w8 w9 := ⟨k9.os, k9.tape, k9.output, k9.size, k9.block⟩
                clear k9
                obtain ⟨ax0, ax1⟩ := (X8.kp J9).all
                obtain ⟨ay0, ay1⟩ := (Y8.kp J9).all
                go_wp2_with fail
                refine hK.out _ _ ?_ (fun hHeld => ?_)
                · (try dsimp only); go_keep
                clear hK K
                try simp only [Act.put, List.setIfInBounds_toArray, List.set_cons_zero, List.set_cons_succ]
                refine wpAnyH_take (i := 1) (oi := Oper.mk (some 71) _ _ _ _ _) (v := ?v1k1a) rfl (by kernel_rfl) (by kernel_rfl) (by kernel_rfl) (fun _ _ _ h => h) (Or.inl ⟨by rfl, ?hy1k1a⟩) (by assumption) ?rest1k1a
                case hy1k1a => (intro w0 hSw; (try dsimp only at hSw); go_simp; try with_reducible rfl)
                try simp only [Act.put, List.setIfInBounds_toArray, List.set_cons_zero, List.set_cons_succ]
                refine wpAnyH_take (i := 2) (oi := Oper.mk (some 72) _ _ _ _ _) (v := ?v2k1a) rfl (by kernel_rfl) (by kernel_rfl) (by kernel_rfl) (fun _ _ _ h => h) (Or.inl ⟨by rfl, ?hy2k1a⟩) (by assumption) ?rest2k1a
                case hy2k1a => (intro w0 hSw; (try dsimp only at hSw); go_simp; try with_reducible rfl)
                try simp only [Act.put, List.setIfInBounds_toArray, List.set_cons_zero, List.set_cons_succ]
                refine wpAnyH_take (i := 3) (oi := Oper.mk (some 73) _ _ _ _ _) (v := ?v3k1a) rfl (by kernel_rfl) (by kernel_rfl) (by kernel_rfl) (fun _ _ _ h => h) (Or.inl ⟨by rfl, ?hy3k1a⟩) (by assumption) ?rest3k1a
                case hy3k1a => (intro w0 hSw; (try dsimp only at hSw); go_simp; try with_reducible rfl)
                try simp only [Act.put, List.setIfInBounds_toArray, List.set_cons_zero, List.set_cons_succ]
                refine wpAnyH_ready (rs := [4]) (by kernel_rfl) (by simp) ?_
                refine AllReadyH.cons (o := Oper.mk (some 74) _ _ _ _ _) rfl (fun K hK => ?_) AllReadyH.nil
                go_simp
                refine (HF.out _).mono ?_
                rintro e wA ⟨rfl, kA⟩
                have JA : Kp w8 wA := J9.trans kA
                clear kA
                obtain ⟨bx0, bx1⟩ := (X8.kp JA).all
                obtain ⟨by0, by1⟩ := (Y8.kp JA).all
                go_wp2_with fail
                refine hK.out _ _ ?_ (fun hHeld => ?_)
                · (try dsimp only); go_keep
                clear hK K
                try simp only [Act.put, List.setIfInBounds_toArray, List.set_cons_zero, List.set_cons_succ]
                refine wpAnyH_take (i := 5) (oi := Oper.mk (some 75) _ _ _ _ _) (v := ?v5k1a) rfl (by kernel_rfl) (by kernel_rfl) (by kernel_rfl) (fun _ _ _ h => h) (Or.inl ⟨by rfl, ?hy5k1a⟩) (by assumption) ?rest5k1a
                case hy5k1a => (intro w0 hSw; (try dsimp only at hSw); go_simp; try with_reducible rfl)
                try simp only [Act.put, List.setIfInBounds_toArray, List.set_cons_zero, List.set_cons_succ]
                refine wpAnyH_take (i := 6) (oi := Oper.mk (some 76) _ _ _ _ _) (v := ?v6k1a) rfl (by kernel_rfl) (by kernel_rfl) (by kernel_rfl) (fun _ _ _ h => h) (Or.inl ⟨by rfl, ?hy6k1a⟩) (by assumption) ?rest6k1a
                case hy6k1a => (intro w0 hSw; (try dsimp only at hSw); go_simp; try with_reducible rfl)
                try simp only [Act.put, List.setIfInBounds_toArray, List.set_cons_zero, List.set_cons_succ]
                refine wpAnyH_take (i := 7) (oi := Oper.mk (some 77) _ _ _ _ _) (v := undef) rfl (by kernel_rfl) (by kernel_rfl) (by kernel_rfl) (fun _ _ _ h => h) (Or.inr ⟨by rfl, rfl⟩) (by assumption) ?_
                try simp only [Act.put, List.setIfInBounds_toArray, List.set_cons_zero, List.set_cons_succ]
                refine wpAnyH_take (i := 8) (oi := Oper.mk (some 78) _ _ _ _ _) (v := undef) rfl (by kernel_rfl) (by kernel_rfl) (by kernel_rfl) (fun _ _ _ h => h) (Or.inr ⟨by rfl, rfl⟩) (by assumption) ?_
                try simp only [Act.put, List.setIfInBounds_toArray, List.set_cons_zero, List.set_cons_succ]
                refine wpAnyH_take (i := 9) (oi := Oper.mk (some 79) _ _ _ _ _) (v := undef) rfl (by kernel_rfl) (by kernel_rfl) (by kernel_rfl) (fun _ _ _ h => h) (Or.inr ⟨by rfl, rfl⟩) (by assumption) ?_
                try simp only [Act.put, List.setIfInBounds_toArray, List.set_cons_zero, List.set_cons_succ]
                refine wpAnyH_take (i := 10) (oi := Oper.mk (some 80) _ _ _ _ _) (v := ?v10k1a) rfl (by kernel_rfl) (by kernel_rfl) (by kernel_rfl) (fun _ _ _ h => h) (Or.inl ⟨by rfl, ?hy10k1a⟩) (by assumption) ?rest10k1a
                case hy10k1a => (intro w0 hSw; (try dsimp only at hSw); go_simp; try with_reducible rfl)
                try simp only [Act.put, List.setIfInBounds_toArray, List.set_cons_zero, List.set_cons_succ]
                refine wpAnyH_take (i := 11) (oi := Oper.mk (some 81) _ _ _ _ _) (v := ?v11k1a) rfl (by kernel_rfl) (by kernel_rfl) (by kernel_rfl) (fun _ _ _ h => h) (Or.inl ⟨by rfl, ?hy11k1a⟩) (by assumption) ?rest11k1a
                case hy11k1a => (intro w0 hSw; (try dsimp only at hSw); go_simp; try with_reducible rfl)
                try simp only [Act.put, List.setIfInBounds_toArray, List.set_cons_zero, List.set_cons_succ]
                refine wpAnyH_take (i := 12) (oi := Oper.mk (some 6) _ _ _ _ _) (v := ?v12k1a) rfl (by kernel_rfl) (by kernel_rfl) (by kernel_rfl) (fun _ _ _ h => h) (Or.inl ⟨by rfl, ?hy12k1a⟩) (by assumption) ?rest12k1a
                case hy12k1a => (intro w0 hSw; (try dsimp only at hSw); go_simp; try with_reducible rfl)
                try simp only [Act.put, List.setIfInBounds_toArray, List.set_cons_zero, List.set_cons_succ]
                refine wpAnyH_done (by kernel_rfl) ?_ _
                refine NoPanic.normal ?_
                go_wp2
                go_ret
                exact ⟨rfl, HE.out _ (K8.trans JA)⟩
              · have bc : (c == u) = false := by simpa using qc
                have EX : ∀ w, (Op.equalIn 10000 30 (.agg #[.int .i64 f, .int .i64 c]) (.agg #[.int .i64 f, .int .i64 u])).run Try.prog w = .ok false w := fun w => by rw [eq2d, bc]; simp
                clear qc bc
                go_wp2_with fail
                go_region_held3 (fun w' => w'.cell? ⟨w.heap.size + 1, 0, none⟩ = some (.int .i64 f) ∧ w'.cell? ⟨w.heap.size + 1, 1, none⟩ = some (.int .i64 u) ∧ w'.cell? ⟨gy, 0, none⟩ = some (.int .i64 f) ∧ w'.cell? ⟨gy, 1, none⟩ = some (.int .i64 c)) (go_keep) (first
                  | (go_at_call 11; refine (HB.out _).mono ?_; rintro e w9 ⟨rfl, k9⟩; have J9 : Kp w8 w9 := ⟨k9.os, k9.tape, k9.output, k9.size, k9.block⟩; clear k9; obtain ⟨ax0, ax1⟩ := (X8.kp J9).all; obtain ⟨ay0, ay1⟩ := (Y8.kp J9).all)
                  | (go_at_call 13; refine (HF.out _).mono ?_; rintro e wA ⟨rfl, kA⟩; have JA : Kp w8 wA := J9.trans kA; clear kA; obtain ⟨bx0, bx1⟩ := (X8.kp JA).all; obtain ⟨by0, by1⟩ := (Y8.kp JA).all)
                  | fail)
                all_goals
                  go_wp2
                  go_ret
                  exact ⟨rfl, HE.out _ (K8.trans JA)⟩
          · clear HP HQ q1
            by_cases qc : c = u
            · have EX : ∀ w, (Op.equalIn 10000 30 (.agg #[.int .i64 f, .int .i64 c]) (.agg #[.int .i64 f, .int .i64 u])).run Try.prog w = .ok true w := fun w => by rw [eq2d]; simp [qc]
              clear qc
              go_wp2_with fail
              refine wp_region_noPanic ?_
              refine wp_region_held_drew (S := (fun w' => w'.cell? ⟨w.heap.size + 1, 0, none⟩ = some (.int .i64 f) ∧ w'.cell? ⟨w.heap.size + 1, 1, none⟩ = some (.int .i64 u) ∧ w'.cell? ⟨gy, 0, none⟩ = some (.int .i64 f) ∧ w'.cell? ⟨gy, 1, none⟩ = some (.int .i64 c))) (by kernel_rfl) ?_ (fun hHeld => ?_)
              · (try dsimp only); go_keep
              refine wpAnyH_ready (rs := [0]) (by kernel_rfl) (by simp) ?_
              refine AllReadyH.cons (o := Oper.mk (some 70) _ _ _ _ _) rfl (fun K hK => ?_) AllReadyH.nil
              go_simp
              refine (HB.out _).mono ?_
              rintro e w9 ⟨rfl, k9⟩
              have J9 : Kp w8 w9 := ⟨k9.os, k9.tape, k9.output, k9.size, k9.block⟩
              clear k9
              obtain ⟨ax0, ax1⟩ := (X8.kp J9).all
              obtain ⟨ay0, ay1⟩ := (Y8.kp J9).all
              go_wp2_with fail
              refine hK.out _ _ ?_ (fun hHeld => ?_)
              · (try dsimp only); go_keep
              clear hK K
              try simp only [Act.put, List.setIfInBounds_toArray, List.set_cons_zero, List.set_cons_succ]
              refine wpAnyH_take (i := 1) (oi := Oper.mk (some 71) _ _ _ _ _) (v := ?v1k2a) rfl (by kernel_rfl) (by kernel_rfl) (by kernel_rfl) (fun _ _ _ h => h) (Or.inl ⟨by rfl, ?hy1k2a⟩) (by assumption) ?rest1k2a
              case hy1k2a => (intro w0 hSw; (try dsimp only at hSw); go_simp; try with_reducible rfl)
              try simp only [Act.put, List.setIfInBounds_toArray, List.set_cons_zero, List.set_cons_succ]
              refine wpAnyH_take (i := 2) (oi := Oper.mk (some 72) _ _ _ _ _) (v := ?v2k2a) rfl (by kernel_rfl) (by kernel_rfl) (by kernel_rfl) (fun _ _ _ h => h) (Or.inl ⟨by rfl, ?hy2k2a⟩) (by assumption) ?rest2k2a
              case hy2k2a => (intro w0 hSw; (try dsimp only at hSw); go_simp; try with_reducible rfl)
              try simp only [Act.put, List.setIfInBounds_toArray, List.set_cons_zero, List.set_cons_succ]
              refine wpAnyH_take (i := 3) (oi := Oper.mk (some 73) _ _ _ _ _) (v := ?v3k2a) rfl (by kernel_rfl) (by kernel_rfl) (by kernel_rfl) (fun _ _ _ h => h) (Or.inl ⟨by rfl, ?hy3k2a⟩) (by assumption) ?rest3k2a
              case hy3k2a => (intro w0 hSw; (try dsimp only at hSw); go_simp; try with_reducible rfl)
              try simp only [Act.put, List.setIfInBounds_toArray, List.set_cons_zero, List.set_cons_succ]
              refine wpAnyH_ready (rs := [4]) (by kernel_rfl) (by simp) ?_
              refine AllReadyH.cons (o := Oper.mk (some 74) _ _ _ _ _) rfl (fun K hK => ?_) AllReadyH.nil
              go_simp
              refine (HF.out _).mono ?_
              rintro e wA ⟨rfl, kA⟩
              have JA : Kp w8 wA := J9.trans kA
              clear kA
              obtain ⟨bx0, bx1⟩ := (X8.kp JA).all
              obtain ⟨by0, by1⟩ := (Y8.kp JA).all
              go_wp2_with fail
              refine hK.out _ _ ?_ (fun hHeld => ?_)
              · (try dsimp only); go_keep
              clear hK K
              try simp only [Act.put, List.setIfInBounds_toArray, List.set_cons_zero, List.set_cons_succ]
              refine wpAnyH_take (i := 5) (oi := Oper.mk (some 75) _ _ _ _ _) (v := ?v5k2a) rfl (by kernel_rfl) (by kernel_rfl) (by kernel_rfl) (fun _ _ _ h => h) (Or.inl ⟨by rfl, ?hy5k2a⟩) (by assumption) ?rest5k2a
              case hy5k2a => (intro w0 hSw; (try dsimp only at hSw); go_simp; try with_reducible rfl)
              try simp only [Act.put, List.setIfInBounds_toArray, List.set_cons_zero, List.set_cons_succ]
              refine wpAnyH_take (i := 6) (oi := Oper.mk (some 76) _ _ _ _ _) (v := ?v6k2a) rfl (by kernel_rfl) (by kernel_rfl) (by kernel_rfl) (fun _ _ _ h => h) (Or.inl ⟨by rfl, ?hy6k2a⟩) (by assumption) ?rest6k2a
              case hy6k2a => (intro w0 hSw; (try dsimp only at hSw); go_simp; try with_reducible rfl)
              try simp only [Act.put, List.setIfInBounds_toArray, List.set_cons_zero, List.set_cons_succ]
              refine wpAnyH_take (i := 7) (oi := Oper.mk (some 77) _ _ _ _ _) (v := undef) rfl (by kernel_rfl) (by kernel_rfl) (by kernel_rfl) (fun _ _ _ h => h) (Or.inr ⟨by rfl, rfl⟩) (by assumption) ?_
              try simp only [Act.put, List.setIfInBounds_toArray, List.set_cons_zero, List.set_cons_succ]
              refine wpAnyH_take (i := 8) (oi := Oper.mk (some 78) _ _ _ _ _) (v := undef) rfl (by kernel_rfl) (by kernel_rfl) (by kernel_rfl) (fun _ _ _ h => h) (Or.inr ⟨by rfl, rfl⟩) (by assumption) ?_
              try simp only [Act.put, List.setIfInBounds_toArray, List.set_cons_zero, List.set_cons_succ]
              refine wpAnyH_take (i := 9) (oi := Oper.mk (some 79) _ _ _ _ _) (v := undef) rfl (by kernel_rfl) (by kernel_rfl) (by kernel_rfl) (fun _ _ _ h => h) (Or.inr ⟨by rfl, rfl⟩) (by assumption) ?_
              try simp only [Act.put, List.setIfInBounds_toArray, List.set_cons_zero, List.set_cons_succ]
              refine wpAnyH_take (i := 10) (oi := Oper.mk (some 80) _ _ _ _ _) (v := ?v10k2a) rfl (by kernel_rfl) (by kernel_rfl) (by kernel_rfl) (fun _ _ _ h => h) (Or.inl ⟨by rfl, ?hy10k2a⟩) (by assumption) ?rest10k2a
              case hy10k2a => (intro w0 hSw; (try dsimp only at hSw); go_simp; try with_reducible rfl)
              try simp only [Act.put, List.setIfInBounds_toArray, List.set_cons_zero, List.set_cons_succ]
              refine wpAnyH_take (i := 11) (oi := Oper.mk (some 81) _ _ _ _ _) (v := ?v11k2a) rfl (by kernel_rfl) (by kernel_rfl) (by kernel_rfl) (fun _ _ _ h => h) (Or.inl ⟨by rfl, ?hy11k2a⟩) (by assumption) ?rest11k2a
              case hy11k2a => (intro w0 hSw; (try dsimp only at hSw); go_simp; try with_reducible rfl)
              try simp only [Act.put, List.setIfInBounds_toArray, List.set_cons_zero, List.set_cons_succ]
              refine wpAnyH_take (i := 12) (oi := Oper.mk (some 6) _ _ _ _ _) (v := ?v12k2a) rfl (by kernel_rfl) (by kernel_rfl) (by kernel_rfl) (fun _ _ _ h => h) (Or.inl ⟨by rfl, ?hy12k2a⟩) (by assumption) ?rest12k2a
              case hy12k2a => (intro w0 hSw; (try dsimp only at hSw); go_simp; try with_reducible rfl)
              try simp only [Act.put, List.setIfInBounds_toArray, List.set_cons_zero, List.set_cons_succ]
              refine wpAnyH_done (by kernel_rfl) ?_ _
              refine NoPanic.normal ?_
              go_wp2
              go_ret
              exact ⟨rfl, HE.out _ (K8.trans JA)⟩
            · have bc : (c == u) = false := by simpa using qc
              have EX : ∀ w, (Op.equalIn 10000 30 (.agg #[.int .i64 f, .int .i64 c]) (.agg #[.int .i64 f, .int .i64 u])).run Try.prog w = .ok false w := fun w => by rw [eq2d, bc]; simp
              clear qc bc
              go_wp2_with fail
              go_region_held3 (fun w' => w'.cell? ⟨w.heap.size + 1, 0, none⟩ = some (.int .i64 f) ∧ w'.cell? ⟨w.heap.size + 1, 1, none⟩ = some (.int .i64 u) ∧ w'.cell? ⟨gy, 0, none⟩ = some (.int .i64 f) ∧ w'.cell? ⟨gy, 1, none⟩ = some (.int .i64 c)) (go_keep) (first
                | (go_at_call 11; refine (HB.out _).mono ?_; rintro e w9 ⟨rfl, k9⟩; have J9 : Kp w8 w9 := ⟨k9.os, k9.tape, k9.output, k9.size, k9.block⟩; clear k9; obtain ⟨ax0, ax1⟩ := (X8.kp J9).all; obtain ⟨ay0, ay1⟩ := (Y8.kp J9).all)
                | (go_at_call 13; refine (HF.out _).mono ?_; rintro e wA ⟨rfl, kA⟩; have JA : Kp w8 wA := J9.trans kA; clear kA; obtain ⟨bx0, bx1⟩ := (X8.kp JA).all; obtain ⟨by0, by1⟩ := (Y8.kp JA).all)
                | fail)
              all_goals
                go_wp2
                go_ret
                exact ⟨rfl, HE.out _ (K8.trans JA)⟩
        · have qc := HQ.out q1
          have b1 : (u == 1099511627776) = false := by simpa using q1
          clear HP HQ q1
          have EX : ∀ w, (Op.equalIn 10000 30 (.agg #[.int .i64 f, .int .i64 c]) (.agg #[.int .i64 f, .int .i64 u])).run Try.prog w = .ok true w := fun w => by rw [eq2d]; simp [qc]
          clear qc
          go_wp2_with fail
          refine wp_region_noPanic ?_
          refine wp_region_held_drew (S := (fun w' => w'.cell? ⟨w.heap.size + 1, 0, none⟩ = some (.int .i64 f) ∧ w'.cell? ⟨w.heap.size + 1, 1, none⟩ = some (.int .i64 u) ∧ w'.cell? ⟨gy, 0, none⟩ = some (.int .i64 f) ∧ w'.cell? ⟨gy, 1, none⟩ = some (.int .i64 c))) (by kernel_rfl) ?_ (fun hHeld => ?_)
          · (try dsimp only); go_keep
          refine wpAnyH_ready (rs := [0]) (by kernel_rfl) (by simp) ?_
          refine AllReadyH.cons (o := Oper.mk (some 70) _ _ _ _ _) rfl (fun K hK => ?_) AllReadyH.nil
          go_simp
          refine (HB.out _).mono ?_
          rintro e w9 ⟨rfl, k9⟩
          have J9 : Kp w8 w9 := ⟨k9.os, k9.tape, k9.output, k9.size, k9.block⟩
          clear k9
          obtain ⟨ax0, ax1⟩ := (X8.kp J9).all
          obtain ⟨ay0, ay1⟩ := (Y8.kp J9).all
          go_wp2_with fail
          refine hK.out _ _ ?_ (fun hHeld => ?_)
          · (try dsimp only); go_keep
          clear hK K
          try simp only [Act.put, List.setIfInBounds_toArray, List.set_cons_zero, List.set_cons_succ]
          refine wpAnyH_take (i := 1) (oi := Oper.mk (some 71) _ _ _ _ _) (v := ?v1k3a) rfl (by kernel_rfl) (by kernel_rfl) (by kernel_rfl) (fun _ _ _ h => h) (Or.inl ⟨by rfl, ?hy1k3a⟩) (by assumption) ?rest1k3a
          case hy1k3a => (intro w0 hSw; (try dsimp only at hSw); go_simp; try with_reducible rfl)
          try simp only [Act.put, List.setIfInBounds_toArray, List.set_cons_zero, List.set_cons_succ]
          refine wpAnyH_take (i := 2) (oi := Oper.mk (some 72) _ _ _ _ _) (v := ?v2k3a) rfl (by kernel_rfl) (by kernel_rfl) (by kernel_rfl) (fun _ _ _ h => h) (Or.inl ⟨by rfl, ?hy2k3a⟩) (by assumption) ?rest2k3a
          case hy2k3a => (intro w0 hSw; (try dsimp only at hSw); go_simp; try with_reducible rfl)
          try simp only [Act.put, List.setIfInBounds_toArray, List.set_cons_zero, List.set_cons_succ]
          refine wpAnyH_take (i := 3) (oi := Oper.mk (some 73) _ _ _ _ _) (v := ?v3k3a) rfl (by kernel_rfl) (by kernel_rfl) (by kernel_rfl) (fun _ _ _ h => h) (Or.inl ⟨by rfl, ?hy3k3a⟩) (by assumption) ?rest3k3a
          case hy3k3a => (intro w0 hSw; (try dsimp only at hSw); go_simp; try with_reducible rfl)
          try simp only [Act.put, List.setIfInBounds_toArray, List.set_cons_zero, List.set_cons_succ]
          refine wpAnyH_ready (rs := [4]) (by kernel_rfl) (by simp) ?_
          refine AllReadyH.cons (o := Oper.mk (some 74) _ _ _ _ _) rfl (fun K hK => ?_) AllReadyH.nil
          go_simp
          refine (HF.out _).mono ?_
          rintro e wA ⟨rfl, kA⟩
          have JA : Kp w8 wA := J9.trans kA
          clear kA
          obtain ⟨bx0, bx1⟩ := (X8.kp JA).all
          obtain ⟨by0, by1⟩ := (Y8.kp JA).all
          go_wp2_with fail
          refine hK.out _ _ ?_ (fun hHeld => ?_)
          · (try dsimp only); go_keep
          clear hK K
          try simp only [Act.put, List.setIfInBounds_toArray, List.set_cons_zero, List.set_cons_succ]
          refine wpAnyH_take (i := 5) (oi := Oper.mk (some 75) _ _ _ _ _) (v := ?v5k3a) rfl (by kernel_rfl) (by kernel_rfl) (by kernel_rfl) (fun _ _ _ h => h) (Or.inl ⟨by rfl, ?hy5k3a⟩) (by assumption) ?rest5k3a
          case hy5k3a => (intro w0 hSw; (try dsimp only at hSw); go_simp; try with_reducible rfl)
          try simp only [Act.put, List.setIfInBounds_toArray, List.set_cons_zero, List.set_cons_succ]
          refine wpAnyH_take (i := 6) (oi := Oper.mk (some 76) _ _ _ _ _) (v := ?v6k3a) rfl (by kernel_rfl) (by kernel_rfl) (by kernel_rfl) (fun _ _ _ h => h) (Or.inl ⟨by rfl, ?hy6k3a⟩) (by assumption) ?rest6k3a
          case hy6k3a => (intro w0 hSw; (try dsimp only at hSw); go_simp; try with_reducible rfl)
          try simp only [Act.put, List.setIfInBounds_toArray, List.set_cons_zero, List.set_cons_succ]
          refine wpAnyH_take (i := 7) (oi := Oper.mk (some 77) _ _ _ _ _) (v := undef) rfl (by kernel_rfl) (by kernel_rfl) (by kernel_rfl) (fun _ _ _ h => h) (Or.inr ⟨by rfl, rfl⟩) (by assumption) ?_
          try simp only [Act.put, List.setIfInBounds_toArray, List.set_cons_zero, List.set_cons_succ]
          refine wpAnyH_take (i := 8) (oi := Oper.mk (some 78) _ _ _ _ _) (v := undef) rfl (by kernel_rfl) (by kernel_rfl) (by kernel_rfl) (fun _ _ _ h => h) (Or.inr ⟨by rfl, rfl⟩) (by assumption) ?_
          try simp only [Act.put, List.setIfInBounds_toArray, List.set_cons_zero, List.set_cons_succ]
          refine wpAnyH_take (i := 9) (oi := Oper.mk (some 79) _ _ _ _ _) (v := undef) rfl (by kernel_rfl) (by kernel_rfl) (by kernel_rfl) (fun _ _ _ h => h) (Or.inr ⟨by rfl, rfl⟩) (by assumption) ?_
          try simp only [Act.put, List.setIfInBounds_toArray, List.set_cons_zero, List.set_cons_succ]
          refine wpAnyH_take (i := 10) (oi := Oper.mk (some 80) _ _ _ _ _) (v := ?v10k3a) rfl (by kernel_rfl) (by kernel_rfl) (by kernel_rfl) (fun _ _ _ h => h) (Or.inl ⟨by rfl, ?hy10k3a⟩) (by assumption) ?rest10k3a
          case hy10k3a => (intro w0 hSw; (try dsimp only at hSw); go_simp; try with_reducible rfl)
          try simp only [Act.put, List.setIfInBounds_toArray, List.set_cons_zero, List.set_cons_succ]
          refine wpAnyH_take (i := 11) (oi := Oper.mk (some 81) _ _ _ _ _) (v := ?v11k3a) rfl (by kernel_rfl) (by kernel_rfl) (by kernel_rfl) (fun _ _ _ h => h) (Or.inl ⟨by rfl, ?hy11k3a⟩) (by assumption) ?rest11k3a
          case hy11k3a => (intro w0 hSw; (try dsimp only at hSw); go_simp; try with_reducible rfl)
          try simp only [Act.put, List.setIfInBounds_toArray, List.set_cons_zero, List.set_cons_succ]
          refine wpAnyH_take (i := 12) (oi := Oper.mk (some 6) _ _ _ _ _) (v := ?v12k3a) rfl (by kernel_rfl) (by kernel_rfl) (by kernel_rfl) (fun _ _ _ h => h) (Or.inl ⟨by rfl, ?hy12k3a⟩) (by assumption) ?rest12k3a
          case hy12k3a => (intro w0 hSw; (try dsimp only at hSw); go_simp; try with_reducible rfl)
          try simp only [Act.put, List.setIfInBounds_toArray, List.set_cons_zero, List.set_cons_succ]
          refine wpAnyH_done (by kernel_rfl) ?_ _
          refine NoPanic.normal ?_
          go_wp2
          go_ret
          exact ⟨rfl, HE.out _ (K8.trans JA)⟩
    · clear n0 n1 n2 n3 n4 n5 a0 a1 a2 a3 a4 a5 a6 b0 b1 p0 p1 p2 p3 p4 p5 p6 q0 q1 d0 d1 d2 d3 d4 d5 d6 x0 x1 HA
      first
        | (have Y6 : B2 _ w1.heap.size 30 f c := N5.set f c; have J6 := set2_new J5 ha5.out f c; clear N5 ha5 y0 y1 g0 g1; generalize (w5.setCell ⟨w1.heap.size, 0, none⟩ (.int .i64 f)).setCell ⟨w1.heap.size, 1, none⟩ (.int .i64 c) = w6 at *; generalize w1.heap.size = gy at *)
        | (have Y6 : B2 _ w3.heap.size 30 f c := N5.set f c; have J6 := set2_new J5 ha5.out f c; clear N5 ha5 y0 y1 g0 g1; generalize (w5.setCell ⟨w3.heap.size, 0, none⟩ (.int .i64 f)).setCell ⟨w3.heap.size, 1, none⟩ (.int .i64 c) = w6 at *; generalize w3.heap.size = gy at *)
        | (have Y6 : B2 _ w5.heap.size 30 f c := b2_new (w := w5) (Kp.refl (w5.alloc (.cells #[.int .i64 f, .int .i64 c] 30))); have J6 := J5.alloc (.cells #[.int .i64 f, .int .i64 c] 30); generalize w5.alloc (.cells #[.int .i64 f, .int .i64 c] 30) = w6 at *; generalize w5.heap.size = gy at *)
      have D6 := D1.kp J6
      have X6 := X1.kp J6
      have K6 := K1.trans J6
      clear D1 X1 K1 J6 J5 J3
      obtain ⟨d0, d1, d2, d3, d4, d5, d6⟩ := D6.all
      obtain ⟨x0, x1⟩ := X6.all
      obtain ⟨y0, y1⟩ := Y6.all
      go_wp2_with fail
      go_region_held3 (fun w' => w'.cell? ⟨w.heap.size, 0, none⟩ = some (.int .i64 on) ∧ w'.cell? ⟨w.heap.size, 1, none⟩ = some (.int .i64 off) ∧ w'.cell? ⟨w.heap.size, 2, none⟩ = some (.int .i64 down) ∧ w'.cell? ⟨w.heap.size, 3, none⟩ = some (.int .i64 up) ∧ w'.cell? ⟨w.heap.size, 4, none⟩ = some (.int .i64 downE) ∧ w'.cell? ⟨w.heap.size, 5, none⟩ = some (.int .i64 upE) ∧ w'.cell? ⟨w.heap.size, 6, none⟩ = some (.int .i64 even) ∧ w'.cell? ⟨w.heap.size + 1, 0, none⟩ = some (.int .i64 f) ∧ w'.cell? ⟨w.heap.size + 1, 1, none⟩ = some (.int .i64 u) ∧ w'.cell? ⟨gy, 0, none⟩ = some (.int .i64 f) ∧ w'.cell? ⟨gy, 1, none⟩ = some (.int .i64 c)) (go_keep) (first
        | (go_at_call 18; refine (HC.out _).mono ?_; rintro e w7 ⟨rfl, k7⟩; have J7 : Kp w6 w7 := ⟨k7.os, k7.tape, k7.output, k7.size, k7.block⟩; clear k7; obtain ⟨a0, a1, a2, a3, a4, a5, a6⟩ := (D6.kp J7).all; obtain ⟨ax0, ax1⟩ := (X6.kp J7).all; obtain ⟨ay0, ay1⟩ := (Y6.kp J7).all)
        | (go_at_call 13; refine (HG.out _).mono ?_; rintro e w8 ⟨rfl, k8⟩; have J8 : Kp w6 w8 := J7.trans k8; clear k8; obtain ⟨b0, b1, b2, b3, b4, b5, b6⟩ := (D6.kp J8).all; obtain ⟨bx0, bx1⟩ := (X6.kp J8).all; obtain ⟨by0, by1⟩ := (Y6.kp J8).all)
        | fail)
      all_goals
        have D8 := D6.kp J8
        have X8 := X6.kp J8
        have Y8 := Y6.kp J8
        have K8 := K6.trans J8
        clear a0 a1 a2 a3 a4 a5 a6 ax0 ax1 ay0 ay1 b0 b1 b2 b3 b4 b5 b6 bx0 bx1 by0 by1 d0 d1 d2 d3 d4 d5 d6 x0 x1 y0 y1 J7 J8 D6 X6 Y6 K6 EQ HC HG
        obtain ⟨d0, d1, d2, d3, d4, d5, d6⟩ := D8.all
        obtain ⟨x0, x1⟩ := X8.all
        obtain ⟨y0, y1⟩ := Y8.all
        by_cases q1 : u = 1099511627776
        · have b1 : (u == 1099511627776) = true := by simpa using q1
          by_cases q2 : now ≤ 1073741824
          · by_cases q3 : f ≤ 1073741824
            · obtain ⟨HS, v1, v2, v3, v4⟩ := HP.out q1 q2 q3
              have HS2 : Hid (∀ W, _) := HS
              clear HS HP HQ q1 HF
              go_wp2_with (first
                | (go_at_call 11; refine (HB.out _).mono ?_; rintro e w9 ⟨rfl, k9⟩; clear d0 d1 d2 d3 d4 d5 d6 x0 x1 y0 y1; obtain ⟨a0, a1, a2, a3, a4, a5, a6⟩ := (D8.kp k9).all; obtain ⟨ax0, ax1⟩ := (X8.kp k9).all; obtain ⟨ay0, ay1⟩ := (Y8.kp k9).all; have K9 := K8.trans k9)
                | (go_at_call 12; refine (HS2.out _).mono ?_; rintro e wA ⟨rfl, kA⟩; have KA := K9.trans kA)
                | fail)
              go_ret
              exact ⟨rfl, HE.out _ KA⟩
            · clear HP HQ q1
              by_cases qc : c = u
              · have EX : ∀ w, (Op.equalIn 10000 30 (.agg #[.int .i64 f, .int .i64 c]) (.agg #[.int .i64 f, .int .i64 u])).run Try.prog w = .ok true w := fun w => by rw [eq2d]; simp [qc]
                clear qc
                go_wp2_with fail
                refine wp_region_noPanic ?_
                refine wp_region_held_drew (S := (fun w' => w'.cell? ⟨w.heap.size + 1, 0, none⟩ = some (.int .i64 f) ∧ w'.cell? ⟨w.heap.size + 1, 1, none⟩ = some (.int .i64 u) ∧ w'.cell? ⟨gy, 0, none⟩ = some (.int .i64 f) ∧ w'.cell? ⟨gy, 1, none⟩ = some (.int .i64 c))) (by kernel_rfl) ?_ (fun hHeld => ?_)
                · (try dsimp only); go_keep
                refine wpAnyH_ready (rs := [0]) (by kernel_rfl) (by simp) ?_
                refine AllReadyH.cons (o := Oper.mk (some 70) _ _ _ _ _) rfl (fun K hK => ?_) AllReadyH.nil
                go_simp
                refine (HB.out _).mono ?_
                rintro e w9 ⟨rfl, k9⟩
                have J9 : Kp w8 w9 := ⟨k9.os, k9.tape, k9.output, k9.size, k9.block⟩
                clear k9
                obtain ⟨ax0, ax1⟩ := (X8.kp J9).all
                obtain ⟨ay0, ay1⟩ := (Y8.kp J9).all
                go_wp2_with fail
                refine hK.out _ _ ?_ (fun hHeld => ?_)
                · (try dsimp only); go_keep
                clear hK K
                try simp only [Act.put, List.setIfInBounds_toArray, List.set_cons_zero, List.set_cons_succ]
                refine wpAnyH_take (i := 1) (oi := Oper.mk (some 71) _ _ _ _ _) (v := ?v1k1b) rfl (by kernel_rfl) (by kernel_rfl) (by kernel_rfl) (fun _ _ _ h => h) (Or.inl ⟨by rfl, ?hy1k1b⟩) (by assumption) ?rest1k1b
                case hy1k1b => (intro w0 hSw; (try dsimp only at hSw); go_simp; try with_reducible rfl)
                try simp only [Act.put, List.setIfInBounds_toArray, List.set_cons_zero, List.set_cons_succ]
                refine wpAnyH_take (i := 2) (oi := Oper.mk (some 72) _ _ _ _ _) (v := ?v2k1b) rfl (by kernel_rfl) (by kernel_rfl) (by kernel_rfl) (fun _ _ _ h => h) (Or.inl ⟨by rfl, ?hy2k1b⟩) (by assumption) ?rest2k1b
                case hy2k1b => (intro w0 hSw; (try dsimp only at hSw); go_simp; try with_reducible rfl)
                try simp only [Act.put, List.setIfInBounds_toArray, List.set_cons_zero, List.set_cons_succ]
                refine wpAnyH_take (i := 3) (oi := Oper.mk (some 73) _ _ _ _ _) (v := ?v3k1b) rfl (by kernel_rfl) (by kernel_rfl) (by kernel_rfl) (fun _ _ _ h => h) (Or.inl ⟨by rfl, ?hy3k1b⟩) (by assumption) ?rest3k1b
                case hy3k1b => (intro w0 hSw; (try dsimp only at hSw); go_simp; try with_reducible rfl)
                try simp only [Act.put, List.setIfInBounds_toArray, List.set_cons_zero, List.set_cons_succ]
                refine wpAnyH_ready (rs := [4]) (by kernel_rfl) (by simp) ?_
                refine AllReadyH.cons (o := Oper.mk (some 74) _ _ _ _ _) rfl (fun K hK => ?_) AllReadyH.nil
                go_simp
                refine (HF.out _).mono ?_
                rintro e wA ⟨rfl, kA⟩
                have JA : Kp w8 wA := J9.trans kA
                clear kA
                obtain ⟨bx0, bx1⟩ := (X8.kp JA).all
                obtain ⟨by0, by1⟩ := (Y8.kp JA).all
                go_wp2_with fail
                refine hK.out _ _ ?_ (fun hHeld => ?_)
                · (try dsimp only); go_keep
                clear hK K
                try simp only [Act.put, List.setIfInBounds_toArray, List.set_cons_zero, List.set_cons_succ]
                refine wpAnyH_take (i := 5) (oi := Oper.mk (some 75) _ _ _ _ _) (v := ?v5k1b) rfl (by kernel_rfl) (by kernel_rfl) (by kernel_rfl) (fun _ _ _ h => h) (Or.inl ⟨by rfl, ?hy5k1b⟩) (by assumption) ?rest5k1b
                case hy5k1b => (intro w0 hSw; (try dsimp only at hSw); go_simp; try with_reducible rfl)
                try simp only [Act.put, List.setIfInBounds_toArray, List.set_cons_zero, List.set_cons_succ]
                refine wpAnyH_take (i := 6) (oi := Oper.mk (some 76) _ _ _ _ _) (v := ?v6k1b) rfl (by kernel_rfl) (by kernel_rfl) (by kernel_rfl) (fun _ _ _ h => h) (Or.inl ⟨by rfl, ?hy6k1b⟩) (by assumption) ?rest6k1b
                case hy6k1b => (intro w0 hSw; (try dsimp only at hSw); go_simp; try with_reducible rfl)
                try simp only [Act.put, List.setIfInBounds_toArray, List.set_cons_zero, List.set_cons_succ]
                refine wpAnyH_take (i := 7) (oi := Oper.mk (some 77) _ _ _ _ _) (v := undef) rfl (by kernel_rfl) (by kernel_rfl) (by kernel_rfl) (fun _ _ _ h => h) (Or.inr ⟨by rfl, rfl⟩) (by assumption) ?_
                try simp only [Act.put, List.setIfInBounds_toArray, List.set_cons_zero, List.set_cons_succ]
                refine wpAnyH_take (i := 8) (oi := Oper.mk (some 78) _ _ _ _ _) (v := undef) rfl (by kernel_rfl) (by kernel_rfl) (by kernel_rfl) (fun _ _ _ h => h) (Or.inr ⟨by rfl, rfl⟩) (by assumption) ?_
                try simp only [Act.put, List.setIfInBounds_toArray, List.set_cons_zero, List.set_cons_succ]
                refine wpAnyH_take (i := 9) (oi := Oper.mk (some 79) _ _ _ _ _) (v := undef) rfl (by kernel_rfl) (by kernel_rfl) (by kernel_rfl) (fun _ _ _ h => h) (Or.inr ⟨by rfl, rfl⟩) (by assumption) ?_
                try simp only [Act.put, List.setIfInBounds_toArray, List.set_cons_zero, List.set_cons_succ]
                refine wpAnyH_take (i := 10) (oi := Oper.mk (some 80) _ _ _ _ _) (v := ?v10k1b) rfl (by kernel_rfl) (by kernel_rfl) (by kernel_rfl) (fun _ _ _ h => h) (Or.inl ⟨by rfl, ?hy10k1b⟩) (by assumption) ?rest10k1b
                case hy10k1b => (intro w0 hSw; (try dsimp only at hSw); go_simp; try with_reducible rfl)
                try simp only [Act.put, List.setIfInBounds_toArray, List.set_cons_zero, List.set_cons_succ]
                refine wpAnyH_take (i := 11) (oi := Oper.mk (some 81) _ _ _ _ _) (v := ?v11k1b) rfl (by kernel_rfl) (by kernel_rfl) (by kernel_rfl) (fun _ _ _ h => h) (Or.inl ⟨by rfl, ?hy11k1b⟩) (by assumption) ?rest11k1b
                case hy11k1b => (intro w0 hSw; (try dsimp only at hSw); go_simp; try with_reducible rfl)
                try simp only [Act.put, List.setIfInBounds_toArray, List.set_cons_zero, List.set_cons_succ]
                refine wpAnyH_take (i := 12) (oi := Oper.mk (some 6) _ _ _ _ _) (v := ?v12k1b) rfl (by kernel_rfl) (by kernel_rfl) (by kernel_rfl) (fun _ _ _ h => h) (Or.inl ⟨by rfl, ?hy12k1b⟩) (by assumption) ?rest12k1b
                case hy12k1b => (intro w0 hSw; (try dsimp only at hSw); go_simp; try with_reducible rfl)
                try simp only [Act.put, List.setIfInBounds_toArray, List.set_cons_zero, List.set_cons_succ]
                refine wpAnyH_done (by kernel_rfl) ?_ _
                refine NoPanic.normal ?_
                go_wp2
                go_ret
                exact ⟨rfl, HE.out _ (K8.trans JA)⟩
              · have bc : (c == u) = false := by simpa using qc
                have EX : ∀ w, (Op.equalIn 10000 30 (.agg #[.int .i64 f, .int .i64 c]) (.agg #[.int .i64 f, .int .i64 u])).run Try.prog w = .ok false w := fun w => by rw [eq2d, bc]; simp
                clear qc bc
                go_wp2_with fail
                go_region_held3 (fun w' => w'.cell? ⟨w.heap.size + 1, 0, none⟩ = some (.int .i64 f) ∧ w'.cell? ⟨w.heap.size + 1, 1, none⟩ = some (.int .i64 u) ∧ w'.cell? ⟨gy, 0, none⟩ = some (.int .i64 f) ∧ w'.cell? ⟨gy, 1, none⟩ = some (.int .i64 c)) (go_keep) (first
                  | (go_at_call 11; refine (HB.out _).mono ?_; rintro e w9 ⟨rfl, k9⟩; have J9 : Kp w8 w9 := ⟨k9.os, k9.tape, k9.output, k9.size, k9.block⟩; clear k9; obtain ⟨ax0, ax1⟩ := (X8.kp J9).all; obtain ⟨ay0, ay1⟩ := (Y8.kp J9).all)
                  | (go_at_call 13; refine (HF.out _).mono ?_; rintro e wA ⟨rfl, kA⟩; have JA : Kp w8 wA := J9.trans kA; clear kA; obtain ⟨bx0, bx1⟩ := (X8.kp JA).all; obtain ⟨by0, by1⟩ := (Y8.kp JA).all)
                  | fail)
                all_goals
                  go_wp2
                  go_ret
                  exact ⟨rfl, HE.out _ (K8.trans JA)⟩
          · clear HP HQ q1
            by_cases qc : c = u
            · have EX : ∀ w, (Op.equalIn 10000 30 (.agg #[.int .i64 f, .int .i64 c]) (.agg #[.int .i64 f, .int .i64 u])).run Try.prog w = .ok true w := fun w => by rw [eq2d]; simp [qc]
              clear qc
              go_wp2_with fail
              refine wp_region_noPanic ?_
              refine wp_region_held_drew (S := (fun w' => w'.cell? ⟨w.heap.size + 1, 0, none⟩ = some (.int .i64 f) ∧ w'.cell? ⟨w.heap.size + 1, 1, none⟩ = some (.int .i64 u) ∧ w'.cell? ⟨gy, 0, none⟩ = some (.int .i64 f) ∧ w'.cell? ⟨gy, 1, none⟩ = some (.int .i64 c))) (by kernel_rfl) ?_ (fun hHeld => ?_)
              · (try dsimp only); go_keep
              refine wpAnyH_ready (rs := [0]) (by kernel_rfl) (by simp) ?_
              refine AllReadyH.cons (o := Oper.mk (some 70) _ _ _ _ _) rfl (fun K hK => ?_) AllReadyH.nil
              go_simp
              refine (HB.out _).mono ?_
              rintro e w9 ⟨rfl, k9⟩
              have J9 : Kp w8 w9 := ⟨k9.os, k9.tape, k9.output, k9.size, k9.block⟩
              clear k9
              obtain ⟨ax0, ax1⟩ := (X8.kp J9).all
              obtain ⟨ay0, ay1⟩ := (Y8.kp J9).all
              go_wp2_with fail
              refine hK.out _ _ ?_ (fun hHeld => ?_)
              · (try dsimp only); go_keep
              clear hK K
              try simp only [Act.put, List.setIfInBounds_toArray, List.set_cons_zero, List.set_cons_succ]
              refine wpAnyH_take (i := 1) (oi := Oper.mk (some 71) _ _ _ _ _) (v := ?v1k2b) rfl (by kernel_rfl) (by kernel_rfl) (by kernel_rfl) (fun _ _ _ h => h) (Or.inl ⟨by rfl, ?hy1k2b⟩) (by assumption) ?rest1k2b
              case hy1k2b => (intro w0 hSw; (try dsimp only at hSw); go_simp; try with_reducible rfl)
              try simp only [Act.put, List.setIfInBounds_toArray, List.set_cons_zero, List.set_cons_succ]
              refine wpAnyH_take (i := 2) (oi := Oper.mk (some 72) _ _ _ _ _) (v := ?v2k2b) rfl (by kernel_rfl) (by kernel_rfl) (by kernel_rfl) (fun _ _ _ h => h) (Or.inl ⟨by rfl, ?hy2k2b⟩) (by assumption) ?rest2k2b
              case hy2k2b => (intro w0 hSw; (try dsimp only at hSw); go_simp; try with_reducible rfl)
              try simp only [Act.put, List.setIfInBounds_toArray, List.set_cons_zero, List.set_cons_succ]
              refine wpAnyH_take (i := 3) (oi := Oper.mk (some 73) _ _ _ _ _) (v := ?v3k2b) rfl (by kernel_rfl) (by kernel_rfl) (by kernel_rfl) (fun _ _ _ h => h) (Or.inl ⟨by rfl, ?hy3k2b⟩) (by assumption) ?rest3k2b
              case hy3k2b => (intro w0 hSw; (try dsimp only at hSw); go_simp; try with_reducible rfl)
              try simp only [Act.put, List.setIfInBounds_toArray, List.set_cons_zero, List.set_cons_succ]
              refine wpAnyH_ready (rs := [4]) (by kernel_rfl) (by simp) ?_
              refine AllReadyH.cons (o := Oper.mk (some 74) _ _ _ _ _) rfl (fun K hK => ?_) AllReadyH.nil
              go_simp
              refine (HF.out _).mono ?_
              rintro e wA ⟨rfl, kA⟩
              have JA : Kp w8 wA := J9.trans kA
              clear kA
              obtain ⟨bx0, bx1⟩ := (X8.kp JA).all
              obtain ⟨by0, by1⟩ := (Y8.kp JA).all
              go_wp2_with fail
              refine hK.out _ _ ?_ (fun hHeld => ?_)
              · (try dsimp only); go_keep
              clear hK K
              try simp only [Act.put, List.setIfInBounds_toArray, List.set_cons_zero, List.set_cons_succ]
              refine wpAnyH_take (i := 5) (oi := Oper.mk (some 75) _ _ _ _ _) (v := ?v5k2b) rfl (by kernel_rfl) (by kernel_rfl) (by kernel_rfl) (fun _ _ _ h => h) (Or.inl ⟨by rfl, ?hy5k2b⟩) (by assumption) ?rest5k2b
              case hy5k2b => (intro w0 hSw; (try dsimp only at hSw); go_simp; try with_reducible rfl)
              try simp only [Act.put, List.setIfInBounds_toArray, List.set_cons_zero, List.set_cons_succ]
              refine wpAnyH_take (i := 6) (oi := Oper.mk (some 76) _ _ _ _ _) (v := ?v6k2b) rfl (by kernel_rfl) (by kernel_rfl) (by kernel_rfl) (fun _ _ _ h => h) (Or.inl ⟨by rfl, ?hy6k2b⟩) (by assumption) ?rest6k2b
              case hy6k2b => (intro w0 hSw; (try dsimp only at hSw); go_simp; try with_reducible rfl)
              try simp only [Act.put, List.setIfInBounds_toArray, List.set_cons_zero, List.set_cons_succ]
              refine wpAnyH_take (i := 7) (oi := Oper.mk (some 77) _ _ _ _ _) (v := undef) rfl (by kernel_rfl) (by kernel_rfl) (by kernel_rfl) (fun _ _ _ h => h) (Or.inr ⟨by rfl, rfl⟩) (by assumption) ?_
              try simp only [Act.put, List.setIfInBounds_toArray, List.set_cons_zero, List.set_cons_succ]
              refine wpAnyH_take (i := 8) (oi := Oper.mk (some 78) _ _ _ _ _) (v := undef) rfl (by kernel_rfl) (by kernel_rfl) (by kernel_rfl) (fun _ _ _ h => h) (Or.inr ⟨by rfl, rfl⟩) (by assumption) ?_
              try simp only [Act.put, List.setIfInBounds_toArray, List.set_cons_zero, List.set_cons_succ]
              refine wpAnyH_take (i := 9) (oi := Oper.mk (some 79) _ _ _ _ _) (v := undef) rfl (by kernel_rfl) (by kernel_rfl) (by kernel_rfl) (fun _ _ _ h => h) (Or.inr ⟨by rfl, rfl⟩) (by assumption) ?_
              try simp only [Act.put, List.setIfInBounds_toArray, List.set_cons_zero, List.set_cons_succ]
              refine wpAnyH_take (i := 10) (oi := Oper.mk (some 80) _ _ _ _ _) (v := ?v10k2b) rfl (by kernel_rfl) (by kernel_rfl) (by kernel_rfl) (fun _ _ _ h => h) (Or.inl ⟨by rfl, ?hy10k2b⟩) (by assumption) ?rest10k2b
              case hy10k2b => (intro w0 hSw; (try dsimp only at hSw); go_simp; try with_reducible rfl)
              try simp only [Act.put, List.setIfInBounds_toArray, List.set_cons_zero, List.set_cons_succ]
              refine wpAnyH_take (i := 11) (oi := Oper.mk (some 81) _ _ _ _ _) (v := ?v11k2b) rfl (by kernel_rfl) (by kernel_rfl) (by kernel_rfl) (fun _ _ _ h => h) (Or.inl ⟨by rfl, ?hy11k2b⟩) (by assumption) ?rest11k2b
              case hy11k2b => (intro w0 hSw; (try dsimp only at hSw); go_simp; try with_reducible rfl)
              try simp only [Act.put, List.setIfInBounds_toArray, List.set_cons_zero, List.set_cons_succ]
              refine wpAnyH_take (i := 12) (oi := Oper.mk (some 6) _ _ _ _ _) (v := ?v12k2b) rfl (by kernel_rfl) (by kernel_rfl) (by kernel_rfl) (fun _ _ _ h => h) (Or.inl ⟨by rfl, ?hy12k2b⟩) (by assumption) ?rest12k2b
              case hy12k2b => (intro w0 hSw; (try dsimp only at hSw); go_simp; try with_reducible rfl)
              try simp only [Act.put, List.setIfInBounds_toArray, List.set_cons_zero, List.set_cons_succ]
              refine wpAnyH_done (by kernel_rfl) ?_ _
              refine NoPanic.normal ?_
              go_wp2
              go_ret
              exact ⟨rfl, HE.out _ (K8.trans JA)⟩
            · have bc : (c == u) = false := by simpa using qc
              have EX : ∀ w, (Op.equalIn 10000 30 (.agg #[.int .i64 f, .int .i64 c]) (.agg #[.int .i64 f, .int .i64 u])).run Try.prog w = .ok false w := fun w => by rw [eq2d, bc]; simp
              clear qc bc
              go_wp2_with fail
              go_region_held3 (fun w' => w'.cell? ⟨w.heap.size + 1, 0, none⟩ = some (.int .i64 f) ∧ w'.cell? ⟨w.heap.size + 1, 1, none⟩ = some (.int .i64 u) ∧ w'.cell? ⟨gy, 0, none⟩ = some (.int .i64 f) ∧ w'.cell? ⟨gy, 1, none⟩ = some (.int .i64 c)) (go_keep) (first
                | (go_at_call 11; refine (HB.out _).mono ?_; rintro e w9 ⟨rfl, k9⟩; have J9 : Kp w8 w9 := ⟨k9.os, k9.tape, k9.output, k9.size, k9.block⟩; clear k9; obtain ⟨ax0, ax1⟩ := (X8.kp J9).all; obtain ⟨ay0, ay1⟩ := (Y8.kp J9).all)
                | (go_at_call 13; refine (HF.out _).mono ?_; rintro e wA ⟨rfl, kA⟩; have JA : Kp w8 wA := J9.trans kA; clear kA; obtain ⟨bx0, bx1⟩ := (X8.kp JA).all; obtain ⟨by0, by1⟩ := (Y8.kp JA).all)
                | fail)
              all_goals
                go_wp2
                go_ret
                exact ⟨rfl, HE.out _ (K8.trans JA)⟩
        · have qc := HQ.out q1
          have b1 : (u == 1099511627776) = false := by simpa using q1
          clear HP HQ q1
          have EX : ∀ w, (Op.equalIn 10000 30 (.agg #[.int .i64 f, .int .i64 c]) (.agg #[.int .i64 f, .int .i64 u])).run Try.prog w = .ok true w := fun w => by rw [eq2d]; simp [qc]
          clear qc
          go_wp2_with fail
          refine wp_region_noPanic ?_
          refine wp_region_held_drew (S := (fun w' => w'.cell? ⟨w.heap.size + 1, 0, none⟩ = some (.int .i64 f) ∧ w'.cell? ⟨w.heap.size + 1, 1, none⟩ = some (.int .i64 u) ∧ w'.cell? ⟨gy, 0, none⟩ = some (.int .i64 f) ∧ w'.cell? ⟨gy, 1, none⟩ = some (.int .i64 c))) (by kernel_rfl) ?_ (fun hHeld => ?_)
          · (try dsimp only); go_keep
          refine wpAnyH_ready (rs := [0]) (by kernel_rfl) (by simp) ?_
          refine AllReadyH.cons (o := Oper.mk (some 70) _ _ _ _ _) rfl (fun K hK => ?_) AllReadyH.nil
          go_simp
          refine (HB.out _).mono ?_
          rintro e w9 ⟨rfl, k9⟩
          have J9 : Kp w8 w9 := ⟨k9.os, k9.tape, k9.output, k9.size, k9.block⟩
          clear k9
          obtain ⟨ax0, ax1⟩ := (X8.kp J9).all
          obtain ⟨ay0, ay1⟩ := (Y8.kp J9).all
          go_wp2_with fail
          refine hK.out _ _ ?_ (fun hHeld => ?_)
          · (try dsimp only); go_keep
          clear hK K
          try simp only [Act.put, List.setIfInBounds_toArray, List.set_cons_zero, List.set_cons_succ]
          refine wpAnyH_take (i := 1) (oi := Oper.mk (some 71) _ _ _ _ _) (v := ?v1k3b) rfl (by kernel_rfl) (by kernel_rfl) (by kernel_rfl) (fun _ _ _ h => h) (Or.inl ⟨by rfl, ?hy1k3b⟩) (by assumption) ?rest1k3b
          case hy1k3b => (intro w0 hSw; (try dsimp only at hSw); go_simp; try with_reducible rfl)
          try simp only [Act.put, List.setIfInBounds_toArray, List.set_cons_zero, List.set_cons_succ]
          refine wpAnyH_take (i := 2) (oi := Oper.mk (some 72) _ _ _ _ _) (v := ?v2k3b) rfl (by kernel_rfl) (by kernel_rfl) (by kernel_rfl) (fun _ _ _ h => h) (Or.inl ⟨by rfl, ?hy2k3b⟩) (by assumption) ?rest2k3b
          case hy2k3b => (intro w0 hSw; (try dsimp only at hSw); go_simp; try with_reducible rfl)
          try simp only [Act.put, List.setIfInBounds_toArray, List.set_cons_zero, List.set_cons_succ]
          refine wpAnyH_take (i := 3) (oi := Oper.mk (some 73) _ _ _ _ _) (v := ?v3k3b) rfl (by kernel_rfl) (by kernel_rfl) (by kernel_rfl) (fun _ _ _ h => h) (Or.inl ⟨by rfl, ?hy3k3b⟩) (by assumption) ?rest3k3b
          case hy3k3b => (intro w0 hSw; (try dsimp only at hSw); go_simp; try with_reducible rfl)
          try simp only [Act.put, List.setIfInBounds_toArray, List.set_cons_zero, List.set_cons_succ]
          refine wpAnyH_ready (rs := [4]) (by kernel_rfl) (by simp) ?_
          refine AllReadyH.cons (o := Oper.mk (some 74) _ _ _ _ _) rfl (fun K hK => ?_) AllReadyH.nil
          go_simp
          refine (HF.out _).mono ?_
          rintro e wA ⟨rfl, kA⟩
          have JA : Kp w8 wA := J9.trans kA
          clear kA
          obtain ⟨bx0, bx1⟩ := (X8.kp JA).all
          obtain ⟨by0, by1⟩ := (Y8.kp JA).all
          go_wp2_with fail
          refine hK.out _ _ ?_ (fun hHeld => ?_)
          · (try dsimp only); go_keep
          clear hK K
          try simp only [Act.put, List.setIfInBounds_toArray, List.set_cons_zero, List.set_cons_succ]
          refine wpAnyH_take (i := 5) (oi := Oper.mk (some 75) _ _ _ _ _) (v := ?v5k3b) rfl (by kernel_rfl) (by kernel_rfl) (by kernel_rfl) (fun _ _ _ h => h) (Or.inl ⟨by rfl, ?hy5k3b⟩) (by assumption) ?rest5k3b
          case hy5k3b => (intro w0 hSw; (try dsimp only at hSw); go_simp; try with_reducible rfl)
          try simp only [Act.put, List.setIfInBounds_toArray, List.set_cons_zero, List.set_cons_succ]
          refine wpAnyH_take (i := 6) (oi := Oper.mk (some 76) _ _ _ _ _) (v := ?v6k3b) rfl (by kernel_rfl) (by kernel_rfl) (by kernel_rfl) (fun _ _ _ h => h) (Or.inl ⟨by rfl, ?hy6k3b⟩) (by assumption) ?rest6k3b
          case hy6k3b => (intro w0 hSw; (try dsimp only at hSw); go_simp; try with_reducible rfl)
          try simp only [Act.put, List.setIfInBounds_toArray, List.set_cons_zero, List.set_cons_succ]
          refine wpAnyH_take (i := 7) (oi := Oper.mk (some 77) _ _ _ _ _) (v := undef) rfl (by kernel_rfl) (by kernel_rfl) (by kernel_rfl) (fun _ _ _ h => h) (Or.inr ⟨by rfl, rfl⟩) (by assumption) ?_
          try simp only [Act.put, List.setIfInBounds_toArray, List.set_cons_zero, List.set_cons_succ]
          refine wpAnyH_take (i := 8) (oi := Oper.mk (some 78) _ _ _ _ _) (v := undef) rfl (by kernel_rfl) (by kernel_rfl) (by kernel_rfl) (fun _ _ _ h => h) (Or.inr ⟨by rfl, rfl⟩) (by assumption) ?_
          try simp only [Act.put, List.setIfInBounds_toArray, List.set_cons_zero, List.set_cons_succ]
          refine wpAnyH_take (i := 9) (oi := Oper.mk (some 79) _ _ _ _ _) (v := undef) rfl (by kernel_rfl) (by kernel_rfl) (by kernel_rfl) (fun _ _ _ h => h) (Or.inr ⟨by rfl, rfl⟩) (by assumption) ?_
          try simp only [Act.put, List.setIfInBounds_toArray, List.set_cons_zero, List.set_cons_succ]
          refine wpAnyH_take (i := 10) (oi := Oper.mk (some 80) _ _ _ _ _) (v := ?v10k3b) rfl (by kernel_rfl) (by kernel_rfl) (by kernel_rfl) (fun _ _ _ h => h) (Or.inl ⟨by rfl, ?hy10k3b⟩) (by assumption) ?rest10k3b
          case hy10k3b => (intro w0 hSw; (try dsimp only at hSw); go_simp; try with_reducible rfl)
          try simp only [Act.put, List.setIfInBounds_toArray, List.set_cons_zero, List.set_cons_succ]
          refine wpAnyH_take (i := 11) (oi := Oper.mk (some 81) _ _ _ _ _) (v := ?v11k3b) rfl (by kernel_rfl) (by kernel_rfl) (by kernel_rfl) (fun _ _ _ h => h) (Or.inl ⟨by rfl, ?hy11k3b⟩) (by assumption) ?rest11k3b
          case hy11k3b => (intro w0 hSw; (try dsimp only at hSw); go_simp; try with_reducible rfl)
          try simp only [Act.put, List.setIfInBounds_toArray, List.set_cons_zero, List.set_cons_succ]
          refine wpAnyH_take (i := 12) (oi := Oper.mk (some 6) _ _ _ _ _) (v := ?v12k3b) rfl (by kernel_rfl) (by kernel_rfl) (by kernel_rfl) (fun _ _ _ h => h) (Or.inl ⟨by rfl, ?hy12k3b⟩) (by assumption) ?rest12k3b
          case hy12k3b => (intro w0 hSw; (try dsimp only at hSw); go_simp; try with_reducible rfl)
          try simp only [Act.put, List.setIfInBounds_toArray, List.set_cons_zero, List.set_cons_succ]
          refine wpAnyH_done (by kernel_rfl) ?_ _
          refine NoPanic.normal ?_
          go_wp2
          go_ret
          exact ⟨rfl, HE.out _ (K8.trans JA)⟩
    · clear n0 n1 n2 n3 n4 n5 a0 a1 a2 a3 a4 a5 a6 b0 b1 p0 p1 p2 p3 p4 p5 p6 q0 q1 d0 d1 d2 d3 d4 d5 d6 x0 x1 HA
      first
        | (have Y6 : B2 _ w1.heap.size 30 f c := N5.set f c; have J6 := set2_new J5 ha5.out f c; clear N5 ha5 y0 y1 g0 g1; generalize (w5.setCell ⟨w1.heap.size, 0, none⟩ (.int .i64 f)).setCell ⟨w1.heap.size, 1, none⟩ (.int .i64 c) = w6 at *; generalize w1.heap.size = gy at *)
        | (have Y6 : B2 _ w3.heap.size 30 f c := N5.set f c; have J6 := set2_new J5 ha5.out f c; clear N5 ha5 y0 y1 g0 g1; generalize (w5.setCell ⟨w3.heap.size, 0, none⟩ (.int .i64 f)).setCell ⟨w3.heap.size, 1, none⟩ (.int .i64 c) = w6 at *; generalize w3.heap.size = gy at *)
        | (have Y6 : B2 _ w5.heap.size 30 f c := b2_new (w := w5) (Kp.refl (w5.alloc (.cells #[.int .i64 f, .int .i64 c] 30))); have J6 := J5.alloc (.cells #[.int .i64 f, .int .i64 c] 30); generalize w5.alloc (.cells #[.int .i64 f, .int .i64 c] 30) = w6 at *; generalize w5.heap.size = gy at *)
      have D6 := D1.kp J6
      have X6 := X1.kp J6
      have K6 := K1.trans J6
      clear D1 X1 K1 J6 J5 J3
      obtain ⟨d0, d1, d2, d3, d4, d5, d6⟩ := D6.all
      obtain ⟨x0, x1⟩ := X6.all
      obtain ⟨y0, y1⟩ := Y6.all
      go_wp2_with fail
      go_region_held3 (fun w' => w'.cell? ⟨w.heap.size, 0, none⟩ = some (.int .i64 on) ∧ w'.cell? ⟨w.heap.size, 1, none⟩ = some (.int .i64 off) ∧ w'.cell? ⟨w.heap.size, 2, none⟩ = some (.int .i64 down) ∧ w'.cell? ⟨w.heap.size, 3, none⟩ = some (.int .i64 up) ∧ w'.cell? ⟨w.heap.size, 4, none⟩ = some (.int .i64 downE) ∧ w'.cell? ⟨w.heap.size, 5, none⟩ = some (.int .i64 upE) ∧ w'.cell? ⟨w.heap.size, 6, none⟩ = some (.int .i64 even) ∧ w'.cell? ⟨w.heap.size + 1, 0, none⟩ = some (.int .i64 f) ∧ w'.cell? ⟨w.heap.size + 1, 1, none⟩ = some (.int .i64 u) ∧ w'.cell? ⟨gy, 0, none⟩ = some (.int .i64 f) ∧ w'.cell? ⟨gy, 1, none⟩ = some (.int .i64 c)) (go_keep) (first
        | (go_at_call 18; refine (HC.out _).mono ?_; rintro e w7 ⟨rfl, k7⟩; have J7 : Kp w6 w7 := ⟨k7.os, k7.tape, k7.output, k7.size, k7.block⟩; clear k7; obtain ⟨a0, a1, a2, a3, a4, a5, a6⟩ := (D6.kp J7).all; obtain ⟨ax0, ax1⟩ := (X6.kp J7).all; obtain ⟨ay0, ay1⟩ := (Y6.kp J7).all)
        | (go_at_call 13; refine (HG.out _).mono ?_; rintro e w8 ⟨rfl, k8⟩; have J8 : Kp w6 w8 := J7.trans k8; clear k8; obtain ⟨b0, b1, b2, b3, b4, b5, b6⟩ := (D6.kp J8).all; obtain ⟨bx0, bx1⟩ := (X6.kp J8).all; obtain ⟨by0, by1⟩ := (Y6.kp J8).all)
        | fail)
      all_goals
        have D8 := D6.kp J8
        have X8 := X6.kp J8
        have Y8 := Y6.kp J8
        have K8 := K6.trans J8
        clear a0 a1 a2 a3 a4 a5 a6 ax0 ax1 ay0 ay1 b0 b1 b2 b3 b4 b5 b6 bx0 bx1 by0 by1 d0 d1 d2 d3 d4 d5 d6 x0 x1 y0 y1 J7 J8 D6 X6 Y6 K6 EQ HC HG
        obtain ⟨d0, d1, d2, d3, d4, d5, d6⟩ := D8.all
        obtain ⟨x0, x1⟩ := X8.all
        obtain ⟨y0, y1⟩ := Y8.all
        by_cases q1 : u = 1099511627776
        · have b1 : (u == 1099511627776) = true := by simpa using q1
          by_cases q2 : now ≤ 1073741824
          · by_cases q3 : f ≤ 1073741824
            · obtain ⟨HS, v1, v2, v3, v4⟩ := HP.out q1 q2 q3
              have HS2 : Hid (∀ W, _) := HS
              clear HS HP HQ q1 HF
              go_wp2_with (first
                | (go_at_call 11; refine (HB.out _).mono ?_; rintro e w9 ⟨rfl, k9⟩; clear d0 d1 d2 d3 d4 d5 d6 x0 x1 y0 y1; obtain ⟨a0, a1, a2, a3, a4, a5, a6⟩ := (D8.kp k9).all; obtain ⟨ax0, ax1⟩ := (X8.kp k9).all; obtain ⟨ay0, ay1⟩ := (Y8.kp k9).all; have K9 := K8.trans k9)
                | (go_at_call 12; refine (HS2.out _).mono ?_; rintro e wA ⟨rfl, kA⟩; have KA := K9.trans kA)
                | fail)
              go_ret
              exact ⟨rfl, HE.out _ KA⟩
            · clear HP HQ q1
              by_cases qc : c = u
              · have EX : ∀ w, (Op.equalIn 10000 30 (.agg #[.int .i64 f, .int .i64 c]) (.agg #[.int .i64 f, .int .i64 u])).run Try.prog w = .ok true w := fun w => by rw [eq2d]; simp [qc]
                clear qc
                go_wp2_with fail
                refine wp_region_noPanic ?_
                refine wp_region_held_drew (S := (fun w' => w'.cell? ⟨w.heap.size + 1, 0, none⟩ = some (.int .i64 f) ∧ w'.cell? ⟨w.heap.size + 1, 1, none⟩ = some (.int .i64 u) ∧ w'.cell? ⟨gy, 0, none⟩ = some (.int .i64 f) ∧ w'.cell? ⟨gy, 1, none⟩ = some (.int .i64 c))) (by kernel_rfl) ?_ (fun hHeld => ?_)
                · (try dsimp only); go_keep
                refine wpAnyH_ready (rs := [0]) (by kernel_rfl) (by simp) ?_
                refine AllReadyH.cons (o := Oper.mk (some 70) _ _ _ _ _) rfl (fun K hK => ?_) AllReadyH.nil
                go_simp
                refine (HB.out _).mono ?_
                rintro e w9 ⟨rfl, k9⟩
                have J9 : Kp w8 w9 := ⟨k9.os, k9.tape, k9.output, k9.size, k9.block⟩
                clear k9
                obtain ⟨ax0, ax1⟩ := (X8.kp J9).all
                obtain ⟨ay0, ay1⟩ := (Y8.kp J9).all
                go_wp2_with fail
                refine hK.out _ _ ?_ (fun hHeld => ?_)
                · (try dsimp only); go_keep
                clear hK K
                try simp only [Act.put, List.setIfInBounds_toArray, List.set_cons_zero, List.set_cons_succ]
                refine wpAnyH_take (i := 1) (oi := Oper.mk (some 71) _ _ _ _ _) (v := ?v1k1c) rfl (by kernel_rfl) (by kernel_rfl) (by kernel_rfl) (fun _ _ _ h => h) (Or.inl ⟨by rfl, ?hy1k1c⟩) (by assumption) ?rest1k1c
                case hy1k1c => (intro w0 hSw; (try dsimp only at hSw); go_simp; try with_reducible rfl)
                try simp only [Act.put, List.setIfInBounds_toArray, List.set_cons_zero, List.set_cons_succ]
                refine wpAnyH_take (i := 2) (oi := Oper.mk (some 72) _ _ _ _ _) (v := ?v2k1c) rfl (by kernel_rfl) (by kernel_rfl) (by kernel_rfl) (fun _ _ _ h => h) (Or.inl ⟨by rfl, ?hy2k1c⟩) (by assumption) ?rest2k1c
                case hy2k1c => (intro w0 hSw; (try dsimp only at hSw); go_simp; try with_reducible rfl)
                try simp only [Act.put, List.setIfInBounds_toArray, List.set_cons_zero, List.set_cons_succ]
                refine wpAnyH_take (i := 3) (oi := Oper.mk (some 73) _ _ _ _ _) (v := ?v3k1c) rfl (by kernel_rfl) (by kernel_rfl) (by kernel_rfl) (fun _ _ _ h => h) (Or.inl ⟨by rfl, ?hy3k1c⟩) (by assumption) ?rest3k1c
                case hy3k1c => (intro w0 hSw; (try dsimp only at hSw); go_simp; try with_reducible rfl)
                try simp only [Act.put, List.setIfInBounds_toArray, List.set_cons_zero, List.set_cons_succ]
                refine wpAnyH_ready (rs := [4]) (by kernel_rfl) (by simp) ?_
                refine AllReadyH.cons (o := Oper.mk (some 74) _ _ _ _ _) rfl (fun K hK => ?_) AllReadyH.nil
                go_simp
                refine (HF.out _).mono ?_
                rintro e wA ⟨rfl, kA⟩
                have JA : Kp w8 wA := J9.trans kA
                clear kA
                obtain ⟨bx0, bx1⟩ := (X8.kp JA).all
                obtain ⟨by0, by1⟩ := (Y8.kp JA).all
                go_wp2_with fail
                refine hK.out _ _ ?_ (fun hHeld => ?_)
                · (try dsimp only); go_keep
                clear hK K
                try simp only [Act.put, List.setIfInBounds_toArray, List.set_cons_zero, List.set_cons_succ]
                refine wpAnyH_take (i := 5) (oi := Oper.mk (some 75) _ _ _ _ _) (v := ?v5k1c) rfl (by kernel_rfl) (by kernel_rfl) (by kernel_rfl) (fun _ _ _ h => h) (Or.inl ⟨by rfl, ?hy5k1c⟩) (by assumption) ?rest5k1c
                case hy5k1c => (intro w0 hSw; (try dsimp only at hSw); go_simp; try with_reducible rfl)
                try simp only [Act.put, List.setIfInBounds_toArray, List.set_cons_zero, List.set_cons_succ]
                refine wpAnyH_take (i := 6) (oi := Oper.mk (some 76) _ _ _ _ _) (v := ?v6k1c) rfl (by kernel_rfl) (by kernel_rfl) (by kernel_rfl) (fun _ _ _ h => h) (Or.inl ⟨by rfl, ?hy6k1c⟩) (by assumption) ?rest6k1c
                case hy6k1c => (intro w0 hSw; (try dsimp only at hSw); go_simp; try with_reducible rfl)
                try simp only [Act.put, List.setIfInBounds_toArray, List.set_cons_zero, List.set_cons_succ]
                refine wpAnyH_take (i := 7) (oi := Oper.mk (some 77) _ _ _ _ _) (v := undef) rfl (by kernel_rfl) (by kernel_rfl) (by kernel_rfl) (fun _ _ _ h => h) (Or.inr ⟨by rfl, rfl⟩) (by assumption) ?_
                try simp only [Act.put, List.setIfInBounds_toArray, List.set_cons_zero, List.set_cons_succ]
                refine wpAnyH_take (i := 8) (oi := Oper.mk (some 78) _ _ _ _ _) (v := undef) rfl (by kernel_rfl) (by kernel_rfl) (by kernel_rfl) (fun _ _ _ h => h) (Or.inr ⟨by rfl, rfl⟩) (by assumption) ?_
                try simp only [Act.put, List.setIfInBounds_toArray, List.set_cons_zero, List.set_cons_succ]
                refine wpAnyH_take (i := 9) (oi := Oper.mk (some 79) _ _ _ _ _) (v := undef) rfl (by kernel_rfl) (by kernel_rfl) (by kernel_rfl) (fun _ _ _ h => h) (Or.inr ⟨by rfl, rfl⟩) (by assumption) ?_
                try simp only [Act.put, List.setIfInBounds_toArray, List.set_cons_zero, List.set_cons_succ]
                refine wpAnyH_take (i := 10) (oi := Oper.mk (some 80) _ _ _ _ _) (v := ?v10k1c) rfl (by kernel_rfl) (by kernel_rfl) (by kernel_rfl) (fun _ _ _ h => h) (Or.inl ⟨by rfl, ?hy10k1c⟩) (by assumption) ?rest10k1c
                case hy10k1c => (intro w0 hSw; (try dsimp only at hSw); go_simp; try with_reducible rfl)
                try simp only [Act.put, List.setIfInBounds_toArray, List.set_cons_zero, List.set_cons_succ]
                refine wpAnyH_take (i := 11) (oi := Oper.mk (some 81) _ _ _ _ _) (v := ?v11k1c) rfl (by kernel_rfl) (by kernel_rfl) (by kernel_rfl) (fun _ _ _ h => h) (Or.inl ⟨by rfl, ?hy11k1c⟩) (by assumption) ?rest11k1c
                case hy11k1c => (intro w0 hSw; (try dsimp only at hSw); go_simp; try with_reducible rfl)
                try simp only [Act.put, List.setIfInBounds_toArray, List.set_cons_zero, List.set_cons_succ]
                refine wpAnyH_take (i := 12) (oi := Oper.mk (some 6) _ _ _ _ _) (v := ?v12k1c) rfl (by kernel_rfl) (by kernel_rfl) (by kernel_rfl) (fun _ _ _ h => h) (Or.inl ⟨by rfl, ?hy12k1c⟩) (by assumption) ?rest12k1c
                case hy12k1c => (intro w0 hSw; (try dsimp only at hSw); go_simp; try with_reducible rfl)
                try simp only [Act.put, List.setIfInBounds_toArray, List.set_cons_zero, List.set_cons_succ]
                refine wpAnyH_done (by kernel_rfl) ?_ _
                refine NoPanic.normal ?_
                go_wp2
                go_ret
                exact ⟨rfl, HE.out _ (K8.trans JA)⟩
              · have bc : (c == u) = false := by simpa using qc
                have EX : ∀ w, (Op.equalIn 10000 30 (.agg #[.int .i64 f, .int .i64 c]) (.agg #[.int .i64 f, .int .i64 u])).run Try.prog w = .ok false w := fun w => by rw [eq2d, bc]; simp
                clear qc bc
                go_wp2_with fail
                go_region_held3 (fun w' => w'.cell? ⟨w.heap.size + 1, 0, none⟩ = some (.int .i64 f) ∧ w'.cell? ⟨w.heap.size + 1, 1, none⟩ = some (.int .i64 u) ∧ w'.cell? ⟨gy, 0, none⟩ = some (.int .i64 f) ∧ w'.cell? ⟨gy, 1, none⟩ = some (.int .i64 c)) (go_keep) (first
                  | (go_at_call 11; refine (HB.out _).mono ?_; rintro e w9 ⟨rfl, k9⟩; have J9 : Kp w8 w9 := ⟨k9.os, k9.tape, k9.output, k9.size, k9.block⟩; clear k9; obtain ⟨ax0, ax1⟩ := (X8.kp J9).all; obtain ⟨ay0, ay1⟩ := (Y8.kp J9).all)
                  | (go_at_call 13; refine (HF.out _).mono ?_; rintro e wA ⟨rfl, kA⟩; have JA : Kp w8 wA := J9.trans kA; clear kA; obtain ⟨bx0, bx1⟩ := (X8.kp JA).all; obtain ⟨by0, by1⟩ := (Y8.kp JA).all)
                  | fail)
                all_goals
                  go_wp2
                  go_ret
                  exact ⟨rfl, HE.out _ (K8.trans JA)⟩
          · clear HP HQ q1
            by_cases qc : c = u
            · have EX : ∀ w, (Op.equalIn 10000 30 (.agg #[.int .i64 f, .int .i64 c]) (.agg #[.int .i64 f, .int .i64 u])).run Try.prog w = .ok true w := fun w => by rw [eq2d]; simp [qc]
              clear qc
              go_wp2_with fail
              refine wp_region_noPanic ?_
              refine wp_region_held_drew (S := (fun w' => w'.cell? ⟨w.heap.size + 1, 0, none⟩ = some (.int .i64 f) ∧ w'.cell? ⟨w.heap.size + 1, 1, none⟩ = some (.int .i64 u) ∧ w'.cell? ⟨gy, 0, none⟩ = some (.int .i64 f) ∧ w'.cell? ⟨gy, 1, none⟩ = some (.int .i64 c))) (by kernel_rfl) ?_ (fun hHeld => ?_)
              · (try dsimp only); go_keep
              refine wpAnyH_ready (rs := [0]) (by kernel_rfl) (by simp) ?_
              refine AllReadyH.cons (o := Oper.mk (some 70) _ _ _ _ _) rfl (fun K hK => ?_) AllReadyH.nil
              go_simp
              refine (HB.out _).mono ?_
              rintro e w9 ⟨rfl, k9⟩
              have J9 : Kp w8 w9 := ⟨k9.os, k9.tape, k9.output, k9.size, k9.block⟩
              clear k9
              obtain ⟨ax0, ax1⟩ := (X8.kp J9).all
              obtain ⟨ay0, ay1⟩ := (Y8.kp J9).all
              go_wp2_with fail
              refine hK.out _ _ ?_ (fun hHeld => ?_)
              · (try dsimp only); go_keep
              clear hK K
              try simp only [Act.put, List.setIfInBounds_toArray, List.set_cons_zero, List.set_cons_succ]
              refine wpAnyH_take (i := 1) (oi := Oper.mk (some 71) _ _ _ _ _) (v := ?v1k2c) rfl (by kernel_rfl) (by kernel_rfl) (by kernel_rfl) (fun _ _ _ h => h) (Or.inl ⟨by rfl, ?hy1k2c⟩) (by assumption) ?rest1k2c
              case hy1k2c => (intro w0 hSw; (try dsimp only at hSw); go_simp; try with_reducible rfl)
              try simp only [Act.put, List.setIfInBounds_toArray, List.set_cons_zero, List.set_cons_succ]
              refine wpAnyH_take (i := 2) (oi := Oper.mk (some 72) _ _ _ _ _) (v := ?v2k2c) rfl (by kernel_rfl) (by kernel_rfl) (by kernel_rfl) (fun _ _ _ h => h) (Or.inl ⟨by rfl, ?hy2k2c⟩) (by assumption) ?rest2k2c
              case hy2k2c => (intro w0 hSw; (try dsimp only at hSw); go_simp; try with_reducible rfl)
              try simp only [Act.put, List.setIfInBounds_toArray, List.set_cons_zero, List.set_cons_succ]
              refine wpAnyH_take (i := 3) (oi := Oper.mk (some 73) _ _ _ _ _) (v := ?v3k2c) rfl (by kernel_rfl) (by kernel_rfl) (by kernel_rfl) (fun _ _ _ h => h) (Or.inl ⟨by rfl, ?hy3k2c⟩) (by assumption) ?rest3k2c
              case hy3k2c => (intro w0 hSw; (try dsimp only at hSw); go_simp; try with_reducible rfl)
              try simp only [Act.put, List.setIfInBounds_toArray, List.set_cons_zero, List.set_cons_succ]
              refine wpAnyH_ready (rs := [4]) (by kernel_rfl) (by simp) ?_
              refine AllReadyH.cons (o := Oper.mk (some 74) _ _ _ _ _) rfl (fun K hK => ?_) AllReadyH.nil
              go_simp
              refine (HF.out _).mono ?_
              rintro e wA ⟨rfl, kA⟩
              have JA : Kp w8 wA := J9.trans kA
              clear kA
              obtain ⟨bx0, bx1⟩ := (X8.kp JA).all
              obtain ⟨by0, by1⟩ := (Y8.kp JA).all
              go_wp2_with fail
              refine hK.out _ _ ?_ (fun hHeld => ?_)
              · (try dsimp only); go_keep
              clear hK K
              try simp only [Act.put, List.setIfInBounds_toArray, List.set_cons_zero, List.set_cons_succ]
              refine wpAnyH_take (i := 5) (oi := Oper.mk (some 75) _ _ _ _ _) (v := ?v5k2c) rfl (by kernel_rfl) (by kernel_rfl) (by kernel_rfl) (fun _ _ _ h => h) (Or.inl ⟨by rfl, ?hy5k2c⟩) (by assumption) ?rest5k2c
              case hy5k2c => (intro w0 hSw; (try dsimp only at hSw); go_simp; try with_reducible rfl)
              try simp only [Act.put, List.setIfInBounds_toArray, List.set_cons_zero, List.set_cons_succ]
              refine wpAnyH_take (i := 6) (oi := Oper.mk (some 76) _ _ _ _ _) (v := ?v6k2c) rfl (by kernel_rfl) (by kernel_rfl) (by kernel_rfl) (fun _ _ _ h => h) (Or.inl ⟨by rfl, ?hy6k2c⟩) (by assumption) ?rest6k2c
              case hy6k2c => (intro w0 hSw; (try dsimp only at hSw); go_simp; try with_reducible rfl)
              try simp only [Act.put, List.setIfInBounds_toArray, List.set_cons_zero, List.set_cons_succ]
              refine wpAnyH_take (i := 7) (oi := Oper.mk (some 77) _ _ _ _ _) (v := undef) rfl (by kernel_rfl) (by kernel_rfl) (by kernel_rfl) (fun _ _ _ h => h) (Or.inr ⟨by rfl, rfl⟩) (by assumption) ?_
              try simp only [Act.put, List.setIfInBounds_toArray, List.set_cons_zero, List.set_cons_succ]
              refine wpAnyH_take (i := 8) (oi := Oper.mk (some 78) _ _ _ _ _) (v := undef) rfl (by kernel_rfl) (by kernel_rfl) (by kernel_rfl) (fun _ _ _ h => h) (Or.inr ⟨by rfl, rfl⟩) (by assumption) ?_
              try simp only [Act.put, List.setIfInBounds_toArray, List.set_cons_zero, List.set_cons_succ]
              refine wpAnyH_take (i := 9) (oi := Oper.mk (some 79) _ _ _ _ _) (v := undef) rfl (by kernel_rfl) (by kernel_rfl) (by kernel_rfl) (fun _ _ _ h => h) (Or.inr ⟨by rfl, rfl⟩) (by assumption) ?_
              try simp only [Act.put, List.setIfInBounds_toArray, List.set_cons_zero, List.set_cons_succ]
              refine wpAnyH_take (i := 10) (oi := Oper.mk (some 80) _ _ _ _ _) (v := ?v10k2c) rfl (by kernel_rfl) (by kernel_rfl) (by kernel_rfl) (fun _ _ _ h => h) (Or.inl ⟨by rfl, ?hy10k2c⟩) (by assumption) ?rest10k2c
              case hy10k2c => (intro w0 hSw; (try dsimp only at hSw); go_simp; try with_reducible rfl)
              try simp only [Act.put, List.setIfInBounds_toArray, List.set_cons_zero, List.set_cons_succ]
              refine wpAnyH_take (i := 11) (oi := Oper.mk (some 81) _ _ _ _ _) (v := ?v11k2c) rfl (by kernel_rfl) (by kernel_rfl) (by kernel_rfl) (fun _ _ _ h => h) (Or.inl ⟨by rfl, ?hy11k2c⟩) (by assumption) ?rest11k2c
              case hy11k2c => (intro w0 hSw; (try dsimp only at hSw); go_simp; try with_reducible rfl)
              try simp only [Act.put, List.setIfInBounds_toArray, List.set_cons_zero, List.set_cons_succ]
              refine wpAnyH_take (i := 12) (oi := Oper.mk (some 6) _ _ _ _ _) (v := ?v12k2c) rfl (by kernel_rfl) (by kernel_rfl) (by kernel_rfl) (fun _ _ _ h => h) (Or.inl ⟨by rfl, ?hy12k2c⟩) (by assumption) ?rest12k2c
              case hy12k2c => (intro w0 hSw; (try dsimp only at hSw); go_simp; try with_reducible rfl)
              try simp only [Act.put, List.setIfInBounds_toArray, List.set_cons_zero, List.set_cons_succ]
              refine wpAnyH_done (by kernel_rfl) ?_ _
              refine NoPanic.normal ?_
              go_wp2
              go_ret
              exact ⟨rfl, HE.out _ (K8.trans JA)⟩
            · have bc : (c == u) = false := by simpa using qc
              have EX : ∀ w, (Op.equalIn 10000 30 (.agg #[.int .i64 f, .int .i64 c]) (.agg #[.int .i64 f, .int .i64 u])).run Try.prog w = .ok false w := fun w => by rw [eq2d, bc]; simp
              clear qc bc
              go_wp2_with fail
              go_region_held3 (fun w' => w'.cell? ⟨w.heap.size + 1, 0, none⟩ = some (.int .i64 f) ∧ w'.cell? ⟨w.heap.size + 1, 1, none⟩ = some (.int .i64 u) ∧ w'.cell? ⟨gy, 0, none⟩ = some (.int .i64 f) ∧ w'.cell? ⟨gy, 1, none⟩ = some (.int .i64 c)) (go_keep) (first
                | (go_at_call 11; refine (HB.out _).mono ?_; rintro e w9 ⟨rfl, k9⟩; have J9 : Kp w8 w9 := ⟨k9.os, k9.tape, k9.output, k9.size, k9.block⟩; clear k9; obtain ⟨ax0, ax1⟩ := (X8.kp J9).all; obtain ⟨ay0, ay1⟩ := (Y8.kp J9).all)
                | (go_at_call 13; refine (HF.out _).mono ?_; rintro e wA ⟨rfl, kA⟩; have JA : Kp w8 wA := J9.trans kA; clear kA; obtain ⟨bx0, bx1⟩ := (X8.kp JA).all; obtain ⟨by0, by1⟩ := (Y8.kp JA).all)
                | fail)
              all_goals
                go_wp2
                go_ret
                exact ⟨rfl, HE.out _ (K8.trans JA)⟩
        · have qc := HQ.out q1
          have b1 : (u == 1099511627776) = false := by simpa using q1
          clear HP HQ q1
          have EX : ∀ w, (Op.equalIn 10000 30 (.agg #[.int .i64 f, .int .i64 c]) (.agg #[.int .i64 f, .int .i64 u])).run Try.prog w = .ok true w := fun w => by rw [eq2d]; simp [qc]
          clear qc
          go_wp2_with fail
          refine wp_region_noPanic ?_
          refine wp_region_held_drew (S := (fun w' => w'.cell? ⟨w.heap.size + 1, 0, none⟩ = some (.int .i64 f) ∧ w'.cell? ⟨w.heap.size + 1, 1, none⟩ = some (.int .i64 u) ∧ w'.cell? ⟨gy, 0, none⟩ = some (.int .i64 f) ∧ w'.cell? ⟨gy, 1, none⟩ = some (.int .i64 c))) (by kernel_rfl) ?_ (fun hHeld => ?_)
          · (try dsimp only); go_keep
          refine wpAnyH_ready (rs := [0]) (by kernel_rfl) (by simp) ?_
          refine AllReadyH.cons (o := Oper.mk (some 70) _ _ _ _ _) rfl (fun K hK => ?_) AllReadyH.nil
          go_simp
          refine (HB.out _).mono ?_
          rintro e w9 ⟨rfl, k9⟩
          have J9 : Kp w8 w9 := ⟨k9.os, k9.tape, k9.output, k9.size, k9.block⟩
          clear k9
          obtain ⟨ax0, ax1⟩ := (X8.kp J9).all
          obtain ⟨ay0, ay1⟩ := (Y8.kp J9).all
          go_wp2_with fail
          refine hK.out _ _ ?_ (fun hHeld => ?_)
          · (try dsimp only); go_keep
          clear hK K
          try simp only [Act.put, List.setIfInBounds_toArray, List.set_cons_zero, List.set_cons_succ]
          refine wpAnyH_take (i := 1) (oi := Oper.mk (some 71) _ _ _ _ _) (v := ?v1k3c) rfl (by kernel_rfl) (by kernel_rfl) (by kernel_rfl) (fun _ _ _ h => h) (Or.inl ⟨by rfl, ?hy1k3c⟩) (by assumption) ?rest1k3c
          case hy1k3c => (intro w0 hSw; (try dsimp only at hSw); go_simp; try with_reducible rfl)
          try simp only [Act.put, List.setIfInBounds_toArray, List.set_cons_zero, List.set_cons_succ]
          refine wpAnyH_take (i := 2) (oi := Oper.mk (some 72) _ _ _ _ _) (v := ?v2k3c) rfl (by kernel_rfl) (by kernel_rfl) (by kernel_rfl) (fun _ _ _ h => h) (Or.inl ⟨by rfl, ?hy2k3c⟩) (by assumption) ?rest2k3c
          case hy2k3c => (intro w0 hSw; (try dsimp only at hSw); go_simp; try with_reducible rfl)
          try simp only [Act.put, List.setIfInBounds_toArray, List.set_cons_zero, List.set_cons_succ]
          refine wpAnyH_take (i := 3) (oi := Oper.mk (some 73) _ _ _ _ _) (v := ?v3k3c) rfl (by kernel_rfl) (by kernel_rfl) (by kernel_rfl) (fun _ _ _ h => h) (Or.inl ⟨by rfl, ?hy3k3c⟩) (by assumption) ?rest3k3c
          case hy3k3c => (intro w0 hSw; (try dsimp only at hSw); go_simp; try with_reducible rfl)
          try simp only [Act.put, List.setIfInBounds_toArray, List.set_cons_zero, List.set_cons_succ]
          refine wpAnyH_ready (rs := [4]) (by kernel_rfl) (by simp) ?_
          refine AllReadyH.cons (o := Oper.mk (some 74) _ _ _ _ _) rfl (fun K hK => ?_) AllReadyH.nil
          go_simp
          refine (HF.out _).mono ?_
          rintro e wA ⟨rfl, kA⟩
          have JA : Kp w8 wA := J9.trans kA
          clear kA
          obtain ⟨bx0, bx1⟩ := (X8.kp JA).all
          obtain ⟨by0, by1⟩ := (Y8.kp JA).all
          go_wp2_with fail
          refine hK.out _ _ ?_ (fun hHeld => ?_)
          · (try dsimp only); go_keep
          clear hK K
          try simp only [Act.put, List.setIfInBounds_toArray, List.set_cons_zero, List.set_cons_succ]
          refine wpAnyH_take (i := 5) (oi := Oper.mk (some 75) _ _ _ _ _) (v := ?v5k3c) rfl (by kernel_rfl) (by kernel_rfl) (by kernel_rfl) (fun _ _ _ h => h) (Or.inl ⟨by rfl, ?hy5k3c⟩) (by assumption) ?rest5k3c
          case hy5k3c => (intro w0 hSw; (try dsimp only at hSw); go_simp; try with_reducible rfl)
          try simp only [Act.put, List.setIfInBounds_toArray, List.set_cons_zero, List.set_cons_succ]
          refine wpAnyH_take (i := 6) (oi := Oper.mk (some 76) _ _ _ _ _) (v := ?v6k3c) rfl (by kernel_rfl) (by kernel_rfl) (by kernel_rfl) (fun _ _ _ h => h) (Or.inl ⟨by rfl, ?hy6k3c⟩) (by assumption) ?rest6k3c
          case hy6k3c => (intro w0 hSw; (try dsimp only at hSw); go_simp; try with_reducible rfl)
          try simp only [Act.put, List.setIfInBounds_toArray, List.set_cons_zero, List.set_cons_succ]
          refine wpAnyH_take (i := 7) (oi := Oper.mk (some 77) _ _ _ _ _) (v := undef) rfl (by kernel_rfl) (by kernel_rfl) (by kernel_rfl) (fun _ _ _ h => h) (Or.inr ⟨by rfl, rfl⟩) (by assumption) ?_
          try simp only [Act.put, List.setIfInBounds_toArray, List.set_cons_zero, List.set_cons_succ]
          refine wpAnyH_take (i := 8) (oi := Oper.mk (some 78) _ _ _ _ _) (v := undef) rfl (by kernel_rfl) (by kernel_rfl) (by kernel_rfl) (fun _ _ _ h => h) (Or.inr ⟨by rfl, rfl⟩) (by assumption) ?_
          try simp only [Act.put, List.setIfInBounds_toArray, List.set_cons_zero, List.set_cons_succ]
          refine wpAnyH_take (i := 9) (oi := Oper.mk (some 79) _ _ _ _ _) (v := undef) rfl (by kernel_rfl) (by kernel_rfl) (by kernel_rfl) (fun _ _ _ h => h) (Or.inr ⟨by rfl, rfl⟩) (by assumption) ?_
          try simp only [Act.put, List.setIfInBounds_toArray, List.set_cons_zero, List.set_cons_succ]
          refine wpAnyH_take (i := 10) (oi := Oper.mk (some 80) _ _ _ _ _) (v := ?v10k3c) rfl (by kernel_rfl) (by kernel_rfl) (by kernel_rfl) (fun _ _ _ h => h) (Or.inl ⟨by rfl, ?hy10k3c⟩) (by assumption) ?rest10k3c
          case hy10k3c => (intro w0 hSw; (try dsimp only at hSw); go_simp; try with_reducible rfl)
          try simp only [Act.put, List.setIfInBounds_toArray, List.set_cons_zero, List.set_cons_succ]
          refine wpAnyH_take (i := 11) (oi := Oper.mk (some 81) _ _ _ _ _) (v := ?v11k3c) rfl (by kernel_rfl) (by kernel_rfl) (by kernel_rfl) (fun _ _ _ h => h) (Or.inl ⟨by rfl, ?hy11k3c⟩) (by assumption) ?rest11k3c
          case hy11k3c => (intro w0 hSw; (try dsimp only at hSw); go_simp; try with_reducible rfl)
          try simp only [Act.put, List.setIfInBounds_toArray, List.set_cons_zero, List.set_cons_succ]
          refine wpAnyH_take (i := 12) (oi := Oper.mk (some 6) _ _ _ _ _) (v := ?v12k3c) rfl (by kernel_rfl) (by kernel_rfl) (by kernel_rfl) (fun _ _ _ h => h) (Or.inl ⟨by rfl, ?hy12k3c⟩) (by assumption) ?rest12k3c
          case hy12k3c => (intro w0 hSw; (try dsimp only at hSw); go_simp; try with_reducible rfl)
          try simp only [Act.put, List.setIfInBounds_toArray, List.set_cons_zero, List.set_cons_succ]
          refine wpAnyH_done (by kernel_rfl) ?_ _
          refine NoPanic.normal ?_
          go_wp2
          go_ret
          exact ⟨rfl, HE.out _ (K8.trans JA)⟩
  · clear hr hm
    cases r
    · clear hall
      go_enter Try.func5, Try.ntmps5
      go_wp2_with (first
        | (go_at_call 9; rw [← HW.out]; refine (HR.out _).mono ?_; rintro e w1 ⟨rfl, k1⟩; have K1 := k0.trans k1)
        | (go_at_call 11; refine (HB.out _).mono ?_; rintro e w2 ⟨rfl, k2⟩; have K2 := K1.trans k2)
        | fail)
      go_ret
      exact ⟨rfl, HE.out _ K2⟩
    · have e : m = false := by cases m <;> simp_all
      subst e
      clear hall
      go_enter Try.func5, Try.ntmps5
      try dsimp only [List.append]
      go_wp2_with (first
        | (go_at_call 9; rw [← HW.out]; refine (HR.out _).mono ?_; rintro e w1 ⟨rfl, k1⟩; have K1 := k0.trans k1)
        | (go_at_call 10; refine (HM.out _).mono ?_; rintro e w2 ⟨rfl, rfl⟩)
        | (go_at_call 11; refine (HB.out _).mono ?_; rintro e w2 ⟨rfl, k2⟩; have K2 := K1.trans k2)
        | fail)
      go_ret
      exact ⟨rfl, HE.out _ K2⟩

end Go.Proofs.Ytnjakfkafecmlaa.DV
