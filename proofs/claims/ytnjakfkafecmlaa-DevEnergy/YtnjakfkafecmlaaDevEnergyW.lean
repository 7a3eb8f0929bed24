/- The walk of DevEnergy. -/
import Derived.Test.YtnjakfkafecmlaaDevFacts
namespace Go.Proofs.Ytnjakfkafecmlaa.DV
open Go.ChangeShapes Go.WideShapes Go.ChangeAt Go.RowKit Go.Proofs.Ytnjakfkafecmlaa.AR Go.Proofs.Ytnjakfkafecmlaa.TB

set_option maxHeartbeats 4000000 in
theorem devEnergy_walk (on off down up downE upE even f u now : Int) (w : World) (_ : (Lit.int .i64 now).wf = true) :
    Calls Try.prog 6 #[.agg #[.int .i64 on, .int .i64 off, .int .i64 down, .int .i64 up, .int .i64 downE, .int .i64 upE, .int .i64 even], .agg #[.int .i64 f, .int .i64 u], .int .i64 now] w
      fun e w' => e = .returned (.bool true) ∧ Below w.heap.size w w' := by
  have HE : Hid (∀ w', Kp w w' → Below w.heap.size w w') := fun w' q => q
  obtain ⟨W0, HW⟩ : ∃ W0, Hid (W0 = (w.alloc (.cells #[.int .i64 on, .int .i64 off, .int .i64 down, .int .i64 up, .int .i64 downE, .int .i64 upE, .int .i64 even] 23)).alloc (.cells #[.int .i64 f, .int .i64 u] 25)) := ⟨_, rfl⟩
  obtain ⟨k0, D0, X0⟩ := two_boxes HW.out
  have HR : Hid (∀ W, Calls Try.prog 9 #[.agg #[.int .i64 on, .int .i64 off, .int .i64 down, .int .i64 up, .int .i64 downE, .int .i64 upE, .int .i64 even], .agg #[.int .i64 f, .int .i64 u]] W fun e w' => e = .returned (.bool (awayB on off down up downE upE even && rxB down up f u)) ∧ Kp W w') := fun W => right_any on off down up downE upE even f u W
  have HM : Hid (∀ W, Calls Try.prog 10 #[.int .i64 now] W fun e w' => e = .returned (.bool (moB now)) ∧ W = w') := fun W => moment_any now W
  obtain ⟨r, hr⟩ : ∃ r, (awayB on off down up downE upE even && rxB down up f u) = r := ⟨_, rfl⟩
  rw [hr] at HR
  cases r
  · clear hr
    go_enter Try.func6, Try.ntmps6
    go_wp2_with (first
      | (go_at_call 9; rw [← HW.out]; refine (HR.out _).mono ?_; rintro e w1 ⟨rfl, k1⟩; have K1 := k0.trans k1)
      | (go_at_call 11; refine (answers_any _).mono ?_; rintro e w2 ⟨rfl, k2⟩; have K2 := K1.trans k2)
      | fail)
    go_ret
    exact ⟨rfl, HE.out _ K2⟩
  · obtain ⟨ho, hO, hd, hu, hde, hue, hev, hf, hv, hfu⟩ := right_facts hr
    clear hr
    have HF : Hid (∀ W, Calls Try.prog 13 #[.agg #[.int .i64 f, .int .i64 u]] W fun e w' => e = .returned (.agg #[.int .i64 f, .int .i64 u]) ∧ Kp W w') := fun W => from_any f u W
    have HB : Hid (∀ W, Calls Try.prog 11 #[] W fun e w' => e = .returned (.bool true) ∧ Kp W w') := answers_any
    obtain ⟨m, hm⟩ : ∃ m, moB now = m := ⟨_, rfl⟩
    rw [hm] at HM
    cases m
    · clear hm ho hO hd hu hde hue hev hf hv hfu
      go_enter Try.func6, Try.ntmps6
      go_wp2_with (first
        | (go_at_call 9; rw [← HW.out]; refine (HR.out _).mono ?_; rintro e w1 ⟨rfl, k1⟩; have K1 := k0.trans k1)
        | (go_at_call 10; refine (HM.out _).mono ?_; rintro e w2 ⟨rfl, rfl⟩)
        | (go_at_call 11; refine (HB.out _).mono ?_; rintro e w2 ⟨rfl, k2⟩; have K2 := K1.trans k2)
        | fail)
      go_ret
      exact ⟨rfl, HE.out _ K2⟩
    · have HS : Hid (∀ W, Calls Try.prog 19 #[.agg #[.int .i64 on, .int .i64 off, .int .i64 down, .int .i64 up, .int .i64 downE, .int .i64 upE, .int .i64 even], .agg #[.int .i64 f, .int .i64 u], .int .i64 now] W fun e w' => e = .returned (.int .i64 (enI on off down up downE upE f u now)) ∧ Kp W w') := fun W => energy_any on off down up downE upE even f u now W ho hO hd hu hde hue hf hv (mo_of hm)
      have HT : Hid (∀ W, Calls Try.prog 20 #[.agg #[.int .i64 on, .int .i64 off, .int .i64 down, .int .i64 up, .int .i64 downE, .int .i64 upE, .int .i64 even], .agg #[.int .i64 f, .int .i64 u], .int .i64 now] W fun e w' => e = .returned (.int .i64 (enI on off down up downE upE f u now)) ∧ Kp W w') := fun W => renergy_any on off down up downE upE even f u now W ho hO hd hu hde hue hf hv (mo_of hm) hfu
      generalize enI on off down up downE upE f u now = s at *
      clear hm ho hO hd hu hde hue hev hf hv hfu
      go_enter Try.func6, Try.ntmps6
      go_wp2_with (first
        | (go_at_call 9; rw [← HW.out]; refine (HR.out _).mono ?_; rintro e w1 ⟨rfl, k1⟩; have K1 := k0.trans k1; have D1 := D0.kp k1; have X1 := X0.kp k1)
        | (go_at_call 10; refine (HM.out _).mono ?_; rintro e w2 ⟨rfl, rfl⟩)
        | fail)
      clear HR HM D0 X0 k0 k1 HW
      obtain ⟨d0, d1, d2, d3, d4, d5, d6⟩ := D1.all
      obtain ⟨x0, x1⟩ := X1.all
      go_region_held3 (fun w' => w'.cell? ⟨w.heap.size, 0, none⟩ = some (.int .i64 on) ∧ w'.cell? ⟨w.heap.size, 1, none⟩ = some (.int .i64 off) ∧ w'.cell? ⟨w.heap.size, 2, none⟩ = some (.int .i64 down) ∧ w'.cell? ⟨w.heap.size, 3, none⟩ = some (.int .i64 up) ∧ w'.cell? ⟨w.heap.size, 4, none⟩ = some (.int .i64 downE) ∧ w'.cell? ⟨w.heap.size, 5, none⟩ = some (.int .i64 upE) ∧ w'.cell? ⟨w.heap.size, 6, none⟩ = some (.int .i64 even) ∧
          w'.cell? ⟨w.heap.size + 1, 0, none⟩ = some (.int .i64 f) ∧ w'.cell? ⟨w.heap.size + 1, 1, none⟩ = some (.int .i64 u)) (go_keep) (first
        | (go_at_call 11; refine (HB.out _).mono ?_; rintro e w3 ⟨rfl, k3⟩; have J3 : Kp w1 w3 := (kp_drew _).trans k3; clear k3; obtain ⟨a0, a1, a2, a3, a4, a5, a6⟩ := (D1.kp J3).all; obtain ⟨b0, b1⟩ := (X1.kp J3).all)
        | (go_at_call 13; refine (HF.out _).mono ?_; rintro e w4 ⟨rfl, k4⟩; have J4 : Kp w1 w4 := J3.trans k4; clear k4; obtain ⟨a0, a1, a2, a3, a4, a5, a6⟩ := (D1.kp J4).all; obtain ⟨b0, b1⟩ := (X1.kp J4).all)
        | (go_at_call 19; refine (HS.out _).mono ?_; rintro e w5 ⟨rfl, k5⟩; have J5 : Kp w1 w5 := J4.trans k5; clear k5; obtain ⟨a0, a1, a2, a3, a4, a5, a6⟩ := (D1.kp J5).all; obtain ⟨b0, b1⟩ := (X1.kp J5).all)
        | (go_at_call 20; refine (HT.out _).mono ?_; rintro e w6 ⟨rfl, k6⟩; have J6 : Kp w1 w6 := J5.trans k6; clear k6; obtain ⟨a0, a1, a2, a3, a4, a5, a6⟩ := (D1.kp J6).all; obtain ⟨b0, b1⟩ := (X1.kp J6).all)
        | fail)
      all_goals
        go_wp2
        go_ret
        exact ⟨rfl, HE.out _ (K1.trans J6)⟩

end Go.Proofs.Ytnjakfkafecmlaa.DV
