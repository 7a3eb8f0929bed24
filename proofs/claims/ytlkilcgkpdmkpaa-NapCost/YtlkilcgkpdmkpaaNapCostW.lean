/- What any stay in any sleep state costs. -/
import Derived.Test.YtlkilcgkpdmkpaaNapAns
namespace Go.Proofs.Ytlkilcgkpdmkpaa.NP
open Go.ChangeShapes Go.WideShapes Go.ChangeAt Go.RowKit Go.Proofs.Ytlkilcgkpdmkpaa.AR Go.Proofs.Ytlkilcgkpdmkpaa.TB

set_option maxHeartbeats 8000000 in
theorem napCost_walk (power enter exit enterE exitE even idle stay : Int) (w : World) (_ : (Lit.int .i64 idle).wf = true) (_ : (Lit.int .i64 stay).wf = true) :
    Calls Try.prog 3 #[.agg #[.int .i64 power, .int .i64 enter, .int .i64 exit, .int .i64 enterE, .int .i64 exitE, .int .i64 even], .int .i64 idle, .int .i64 stay] w
      fun e w' => e = .returned (.bool true) ∧ Below w.heap.size w w' := by
  have HE : Hid (∀ w', Kp w w' → Below w.heap.size w w') := fun w' q => q
  obtain ⟨W0, HW⟩ : ∃ W0, Hid (W0 = w.alloc (.cells #[.int .i64 power, .int .i64 enter, .int .i64 exit, .int .i64 enterE, .int .i64 exitE, .int .i64 even] 23)) := ⟨_, rfl⟩
  have Y := sb_new HW.out
  have HS : Hid (∀ w, Calls Try.prog 7 #[.agg #[.int .i64 power, .int .i64 enter, .int .i64 exit, .int .i64 enterE, .int .i64 exitE, .int .i64 even], .int .i64 idle] w fun e w' => e = .returned (.bool (awayB idle power enter exit enterE exitE even)) ∧ Kp w w') := fun w => refsleep_any _ _ _ _ _ _ _ w
  have HC : Hid (∀ w, Calls Try.prog 9 #[.agg #[.int .i64 power, .int .i64 enter, .int .i64 exit, .int .i64 enterE, .int .i64 exitE, .int .i64 even], .int .i64 stay] w fun e w' => e = .returned (.int .i64 (cw power enter exit enterE exitE stay)) ∧ Kp w w') := fun w => cost_any _ _ _ _ _ _ _ w
  have HD : Hid (∀ w, Calls Try.prog 10 #[.agg #[.int .i64 power, .int .i64 enter, .int .i64 exit, .int .i64 enterE, .int .i64 exitE, .int .i64 even], .int .i64 stay] w fun e w' => e = .returned (.int .i64 (cw power enter exit enterE exitE stay)) ∧ Kp w w') := fun w => rcost_any _ _ _ _ _ _ _ w
  generalize awayB idle power enter exit enterE exitE even = may at *
  generalize cw power enter exit enterE exitE stay = co at *
  have d0 := Y.s0
  have d1 := Y.s1
  have d2 := Y.s2
  have d3 := Y.s3
  have d4 := Y.s4
  have d5 := Y.s5
  cases may with
  | false =>
    go_enter Try.func3, Try.ntmps3
    go_wp2_with (first
      | (go_at_call 7; refine (HS.out _).mono ?_; rintro e w1 ⟨rfl, k1⟩)
      | (go_at_call 8; refine (nanswers_any _).mono ?_; rintro e w2 ⟨rfl, k2⟩)
      | fail)
    rw [← HW.out] at k1
    go_ret
    exact ⟨rfl, HE.out _ ((Y.kp.trans k1).trans k2)⟩
  | true =>
    by_cases t0 : stay < 0
    · go_enter Try.func3, Try.ntmps3
      go_wp2_with (first
        | (go_at_call 7; refine (HS.out _).mono ?_; rintro e w1 ⟨rfl, k1⟩)
        | (go_at_call 8; refine (nanswers_any _).mono ?_; rintro e w2 ⟨rfl, k2⟩)
        | fail)
      rw [← HW.out] at k1
      go_ret
      exact ⟨rfl, HE.out _ ((Y.kp.trans k1).trans k2)⟩
    · by_cases t1 : 1073741824 < stay
      · go_enter Try.func3, Try.ntmps3
        go_wp2_with (first
          | (go_at_call 7; refine (HS.out _).mono ?_; rintro e w1 ⟨rfl, k1⟩)
          | (go_at_call 8; refine (nanswers_any _).mono ?_; rintro e w2 ⟨rfl, k2⟩)
          | fail)
        rw [← HW.out] at k1
        go_ret
        exact ⟨rfl, HE.out _ ((Y.kp.trans k1).trans k2)⟩
      · clear d0 d1 d2 d3 d4 d5
        go_enter Try.func3, Try.ntmps3
        go_wp2_with (first
          | (go_at_call 7; refine (HS.out _).mono ?_; rintro e w1 ⟨rfl, k1⟩)
          | fail)
        rw [← HW.out] at k1
        clear HW
        have Y1 := Y.still k1
        clear Y k1 HS
        have d0 := Y1.s0
        have d1 := Y1.s1
        have d2 := Y1.s2
        have d3 := Y1.s3
        have d4 := Y1.s4
        have d5 := Y1.s5
        go_region_held3 (fun w' => w'.cell? ⟨w.heap.size, 0, none⟩ = some (.int .i64 power) ∧ w'.cell? ⟨w.heap.size, 1, none⟩ = some (.int .i64 enter) ∧ w'.cell? ⟨w.heap.size, 2, none⟩ = some (.int .i64 exit) ∧ w'.cell? ⟨w.heap.size, 3, none⟩ = some (.int .i64 enterE) ∧ w'.cell? ⟨w.heap.size, 4, none⟩ = some (.int .i64 exitE) ∧ w'.cell? ⟨w.heap.size, 5, none⟩ = some (.int .i64 even)) (go_keep) (first
          | (go_at_call 8; refine (nanswers_any _).mono ?_; rintro e w3 ⟨rfl, k3⟩; have K3 : Kp w1 w3 := (by first | exact (kp_drew _).trans k3 | exact k3); clear k3; have Y3 := Y1.still K3; have z0 := Y3.s0; have z1 := Y3.s1; have z2 := Y3.s2; have z3 := Y3.s3; have z4 := Y3.s4; have z5 := Y3.s5)
          | (go_at_call 9; refine (HC.out _).mono ?_; rintro e w3 ⟨rfl, k3⟩; have K3 : Kp w1 w3 := (by first | exact (K3.trans (kp_drew _)).trans k3 | exact K3.trans k3); clear k3; have Y3 := Y1.still K3; have z0 := Y3.s0; have z1 := Y3.s1; have z2 := Y3.s2; have z3 := Y3.s3; have z4 := Y3.s4; have z5 := Y3.s5)
          | (go_at_call 10; refine (HD.out _).mono ?_; rintro e w3 ⟨rfl, k3⟩; have K3 : Kp w1 w3 := (by first | exact (K3.trans (kp_drew _)).trans k3 | exact K3.trans k3); clear k3; have Y3 := Y1.still K3; have z0 := Y3.s0; have z1 := Y3.s1; have z2 := Y3.s2; have z3 := Y3.s3; have z4 := Y3.s4; have z5 := Y3.s5)
          | fail)
        all_goals
          go_wp2
          go_ret
          exact ⟨rfl, HE.out _ Y3.kp⟩

end Go.Proofs.Ytlkilcgkpdmkpaa.NP
