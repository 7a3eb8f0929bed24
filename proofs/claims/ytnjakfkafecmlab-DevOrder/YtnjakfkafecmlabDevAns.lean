/- The statements' own test that a program does something. -/
import Derived.Test.YtnjakfkafecmlabDevEn
namespace Go.Proofs.Ytnjakfkafecmlab.DV
open Go.ChangeShapes Go.WideShapes Go.ChangeAt Go.RowKit Go.Proofs.Ytnjakfkafecmlab.AR Go.Proofs.Ytnjakfkafecmlab.TB

theorem mo_lit {x : Int} (h : decide (0 ≤ x ∧ x ≤ 1099511627776) = true) : Mo x := by
  have := of_decide_eq_true h
  unfold Mo
  omega

theorem ans_away (w : World) :
    Calls Try.prog 8 #[.agg #[.int .i64 5, .int .i64 1, .int .i64 2, .int .i64 3, .int .i64 7, .int .i64 4, .int .i64 10], .agg #[.int .i64 0, .int .i64 0], .int .i64 100, .int .i64 110] w
      fun e w' => e = .returned (.tuple #[.agg #[.int .i64 100, .int .i64 110], .bool true]) ∧ Kp w w' := by
  have q := away_any 5 1 2 3 7 4 10 0 0 100 110 w (by decide) (by decide) (mo_lit (by decide)) (mo_lit (by decide)) (mo_lit (by decide)) (mo_lit (by decide))
  have e : goB 2 3 10 0 0 100 110 = true := by decide
  rw [e] at q
  exact q

theorem ans_state1 (w : World) :
    Calls Try.prog 6 #[.agg #[.int .i64 5, .int .i64 1, .int .i64 2, .int .i64 3, .int .i64 7, .int .i64 4, .int .i64 10], .agg #[.int .i64 100, .int .i64 110], .int .i64 101] w
      fun e w' => e = .returned (.int .i64 3) ∧ Kp w w' := by
  have q := state_any 5 1 2 3 7 4 10 100 110 101 w (by decide) (by decide) (mo_lit (by decide)) (mo_lit (by decide))
  have e : stI 2 3 100 110 101 = 3 := by decide
  rw [e] at q
  exact q

theorem ans_state2 (w : World) :
    Calls Try.prog 6 #[.agg #[.int .i64 5, .int .i64 1, .int .i64 2, .int .i64 3, .int .i64 7, .int .i64 4, .int .i64 10], .agg #[.int .i64 100, .int .i64 110], .int .i64 102] w
      fun e w' => e = .returned (.int .i64 2) ∧ Kp w w' := by
  have q := state_any 5 1 2 3 7 4 10 100 110 102 w (by decide) (by decide) (mo_lit (by decide)) (mo_lit (by decide))
  have e : stI 2 3 100 110 102 = 2 := by decide
  rw [e] at q
  exact q

theorem ans_energy (w : World) :
    Calls Try.prog 9 #[.agg #[.int .i64 5, .int .i64 1, .int .i64 2, .int .i64 3, .int .i64 7, .int .i64 4, .int .i64 10], .agg #[.int .i64 100, .int .i64 110], .int .i64 111] w
      fun e w' => e = .returned (.int .i64 21) ∧ Kp w w' := by
  have q := energy_any 5 1 2 3 7 4 10 100 110 111 w (by decide) (by decide) (by decide) (by decide) (by decide) (by decide) (mo_lit (by decide)) (mo_lit (by decide)) (mo_lit (by decide))
  have e : enI 5 1 2 3 7 4 100 110 111 = 21 := by decide
  rw [e] at q
  exact q

theorem ans_call (w : World) :
    Calls Try.prog 10 #[.agg #[.int .i64 5, .int .i64 1, .int .i64 2, .int .i64 3, .int .i64 7, .int .i64 4, .int .i64 10], .agg #[.int .i64 100, .int .i64 1099511627776], .int .i64 200] w
      fun e w' => e = .returned (.agg #[.int .i64 100, .int .i64 203]) ∧ Kp w w' := by
  have q := call_any 5 1 2 3 7 4 10 100 1099511627776 200 w (by decide) (by decide) (by decide) (mo_lit (by decide)) (mo_lit (by decide))
  have e : clI 2 3 10 100 1099511627776 200 = 203 := by decide
  rw [e] at q
  exact q

theorem field_until (a b : Int) (w : World) : (Instr.field 28 (.agg #[.int .i64 a, .int .i64 b]) 1).run Try.prog w = .ok (.int .i64 b) w := by
  simp [Instr.field, asAgg, go_sem]

set_option maxHeartbeats 4000000 in
theorem answers_any (w : World) :
    Calls Try.prog 5 #[] w fun e w' => e = .returned (.bool true) ∧ Kp w w' := by
  obtain ⟨W0, HW⟩ : ∃ W0, Hid (W0 = w.alloc (.cells #[.int .i64 5, .int .i64 1, .int .i64 2, .int .i64 3, .int .i64 7, .int .i64 4, .int .i64 10] 23)) := ⟨_, rfl⟩
  have k0 : Kp w W0 := by rw [HW.out]; exact (Kp.refl w).alloc _
  have D0 : B7 W0 w.heap.size 5 1 2 3 7 4 10 := by rw [HW.out]; exact b7_new (Kp.refl _)
  have EQ : ∀ w, (Op.equalIn 10000 28 (.agg #[.int .i64 100, .int .i64 110]) (.agg #[.int .i64 100, .int .i64 110])).run Try.prog w = .ok true w := fun w => eq2d 100 110 100 110 w
  have FD : ∀ w, (Instr.field 28 (.agg #[.int .i64 100, .int .i64 203]) 1).run Try.prog w = .ok (.int .i64 203) w := field_until 100 203
  have HS1 : Hid (∀ W, _) := ans_state1
  have HS2 : Hid (∀ W, _) := ans_state2
  go_enter Try.func5, Try.ntmps5
  try dsimp only [List.append]
  go_wp2_with fail
  rw [← HW.out]
  refine (ans_away _).mono ?_
  rintro e w1 ⟨rfl, k1⟩
  obtain ⟨d0, d1, d2, d3, d4, d5, d6⟩ := (D0.kp k1).all
  have lt1 := (D0.kp k1).lt
  have D1 := (D0.kp k1).kp ((Kp.refl w1).alloc (.cells #[.int .i64 100, .int .i64 110] 28))
  have X1 : B2 (w1.alloc (.cells #[.int .i64 100, .int .i64 110] 28)) w1.heap.size 28 100 110 := b2_new (Kp.refl _)
  have K1 : Kp w (w1.alloc (.cells #[.int .i64 100, .int .i64 110] 28)) := (k0.trans k1).alloc _
  clear HW D0 k0 k1
  go_wp2_with (first
    | (go_at_call 6; refine (HS1.out _).mono ?_; rintro e w2 ⟨rfl, k2⟩; clear HS1 d0 d1 d2 d3 d4 d5 d6; have D2 := D1.kp k2; have X2 := X1.kp k2; have K2 := K1.trans k2; clear k2; obtain ⟨d0, d1, d2, d3, d4, d5, d6⟩ := D2.all; obtain ⟨x0, x1⟩ := X2.all)
    | (go_at_call 6; refine (HS2.out _).mono ?_; rintro e w3 ⟨rfl, k3⟩; clear HS2 d0 d1 d2 d3 d4 d5 d6 x0 x1; have D3 := D2.kp k3; have X3 := X2.kp k3; have K3 := K2.trans k3; clear k3; obtain ⟨d0, d1, d2, d3, d4, d5, d6⟩ := D3.all; obtain ⟨x0, x1⟩ := X3.all)
    | (go_at_call 9; refine (ans_energy _).mono ?_; rintro e w4 ⟨rfl, k4⟩; clear d0 d1 d2 d3 d4 d5 d6 x0 x1; have D4 := D3.kp k4; have K4 := K3.trans k4; clear k4; obtain ⟨d0, d1, d2, d3, d4, d5, d6⟩ := D4.all)
    | (go_at_call 10; refine (ans_call _).mono ?_; rintro e w5 ⟨rfl, k5⟩; have K5 := K4.trans k5)
    | fail)
  go_ret
  exact ⟨rfl, K5⟩

end Go.Proofs.Ytnjakfkafecmlab.DV
