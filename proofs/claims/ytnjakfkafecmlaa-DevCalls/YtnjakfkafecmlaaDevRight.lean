/- Of which devices the statements speak; the statements' own test that a program does something. -/
import Derived.Test.YtnjakfkafecmlaaDevEn
namespace Go.Proofs.Ytnjakfkafecmlaa.DV
open Go.ChangeShapes Go.WideShapes Go.ChangeAt Go.RowKit Go.Proofs.Ytnjakfkafecmlaa.AR Go.Proofs.Ytnjakfkafecmlaa.TB

/-- a pair of which the chapter speaks -/
def RightX (down up f u : Int) : Prop := (0 ≤ f ∧ f ≤ 1099511627776) ∧ u ≤ 1099511627776 ∧ ((f = 0 ∧ u = 0) ∨ (f ≤ u - down - up ∧ 0 ≤ u))
def decRightX (down up f u : Int) : Decidable (RightX down up f u) := by unfold RightX; exact inferInstance
def rxB (down up f u : Int) : Bool := @decide (RightX down up f u) (decRightX down up f u)
theorem rxB_t {down up f u : Int} : rxB down up f u = true ↔ RightX down up f u := by simp [rxB]
theorem rxB_f {down up f u : Int} : rxB down up f u = false ↔ ¬ RightX down up f u := by simp [rxB]

set_option maxHeartbeats 4000000 in
theorem right_any (on off down up downE upE even f u : Int) (w : World) :
    Calls Try.prog 9 #[.agg #[.int .i64 on, .int .i64 off, .int .i64 down, .int .i64 up, .int .i64 downE, .int .i64 upE, .int .i64 even], .agg #[.int .i64 f, .int .i64 u]] w
      fun e w' => e = .returned (.bool (awayB on off down up downE upE even && rxB down up f u)) ∧ Kp w w' := by
  obtain ⟨W0, HW⟩ : ∃ W0, Hid (W0 = (w.alloc (.cells #[.int .i64 on, .int .i64 off, .int .i64 down, .int .i64 up, .int .i64 downE, .int .i64 upE, .int .i64 even] 23)).alloc (.cells #[.int .i64 f, .int .i64 u] 25)) := ⟨_, rfl⟩
  obtain ⟨k0, D0, X0⟩ := two_boxes HW.out
  have HD : Hid (∀ W, Calls Try.prog 21 #[.agg #[.int .i64 on, .int .i64 off, .int .i64 down, .int .i64 up, .int .i64 downE, .int .i64 upE, .int .i64 even]] W fun e w' => e = .returned (.bool (awayB on off down up downE upE even)) ∧ Kp W w') := fun W => refdevice_any _ _ _ _ _ _ _ W
  obtain ⟨a, ha⟩ : ∃ a, awayB on off down up downE upE even = a := ⟨_, rfl⟩
  rw [ha] at HD ⊢
  cases a
  · show Calls _ _ _ _ fun e w' => e = .returned (.bool false) ∧ Kp w w'
    go_enter Try.func9, Try.ntmps9
    go_wp2_with (first
      | (go_at_call 21; rw [← HW.out]; refine (HD.out _).mono ?_; rintro e w1 ⟨rfl, k1⟩; have K1 : Kp w w1 := k0.trans k1)
      | fail)
    go_ret
    exact ⟨rfl, K1⟩
  · obtain ⟨h1, h2, h3, h4, h5, h6, hE, h8⟩ := awayB_t.1 ha
    clear ha h8 h1 h2 h5 h6 hE
    show Calls _ _ _ _ fun e w' => e = .returned (.bool (rxB down up f u)) ∧ Kp w w'
    have HR : Hid (rxB down up f u = @decide (RightX down up f u) (decRightX down up f u)) := rfl
    generalize rxB down up f u = res at *
    have HF : Hid (¬ RightX down up f u → false = res) := fun q => by rw [HR.out]; exact (@decide_eq_false _ (decRightX _ _ _ _) q).symm
    have HT : Hid (RightX down up f u → true = res) := fun q => by rw [HR.out]; exact (@decide_eq_true _ (decRightX _ _ _ _) q).symm
    clear HR
    unfold RightX at HF HT
    by_cases a1 : 0 ≤ f
    · by_cases a2 : f ≤ 1099511627776
      · by_cases a3 : u ≤ 1099511627776
        · by_cases a4 : f = 0
          · by_cases a5 : u = 0
            · have HE : Hid (true = res) := HT.out (by omega)
              subst a4
              subst a5
              clear HF HT
              go_enter Try.func9, Try.ntmps9
              go_wp2_with (first
                | (go_at_call 21; rw [← HW.out]; refine (HD.out _).mono ?_; rintro e w1 ⟨rfl, k1⟩; have K1 : Kp w w1 := k0.trans k1; have D1 := D0.kp k1; have X1 := X0.kp k1; have d2 := D1.c2; have d3 := D1.c3; have x0 := X1.c0; have x1 := X1.c1)
                | fail)
              go_ret
              first | exact ⟨congrArg (fun x => Ending.returned (Value.bool x)) HE.out, K1⟩ | exact ⟨congrArg (fun x => Ending.returned (Value.bool x)) ((decide_eq_false (Int.not_le.2 a6)).trans HE.out), K1⟩
            · have b0 : (f == 0) = true := by simpa using a4
              have b1 : (u == 0) = false := by simpa using a5
              by_cases a6 : 0 ≤ u
              · have v1 : wrap64 (u - down) = u - down := IntWalk.wrap64_in _ (by omega)
                have v2 : wrap64 (u - down - up) = u - down - up := IntWalk.wrap64_in _ (by omega)
                by_cases a7 : f ≤ u - down - up
                · have HE : Hid (true = res) := HT.out (by omega)
                  clear HF HT a4 a5
                  go_enter Try.func9, Try.ntmps9
                  go_wp2_with (first
                    | (go_at_call 21; rw [← HW.out]; refine (HD.out _).mono ?_; rintro e w1 ⟨rfl, k1⟩; have K1 : Kp w w1 := k0.trans k1; have D1 := D0.kp k1; have X1 := X0.kp k1; have d2 := D1.c2; have d3 := D1.c3; have x0 := X1.c0; have x1 := X1.c1)
                    | fail)
                  go_ret
                  first | exact ⟨congrArg (fun x => Ending.returned (Value.bool x)) HE.out, K1⟩ | exact ⟨congrArg (fun x => Ending.returned (Value.bool x)) ((decide_eq_false (Int.not_le.2 a6)).trans HE.out), K1⟩
                · have HE : Hid (false = res) := HF.out (by omega)
                  clear HF HT a4 a5
                  go_enter Try.func9, Try.ntmps9
                  go_wp2_with (first
                    | (go_at_call 21; rw [← HW.out]; refine (HD.out _).mono ?_; rintro e w1 ⟨rfl, k1⟩; have K1 : Kp w w1 := k0.trans k1; have D1 := D0.kp k1; have X1 := X0.kp k1; have d2 := D1.c2; have d3 := D1.c3; have x0 := X1.c0; have x1 := X1.c1)
                    | fail)
                  go_ret
                  first | exact ⟨congrArg (fun x => Ending.returned (Value.bool x)) HE.out, K1⟩ | exact ⟨congrArg (fun x => Ending.returned (Value.bool x)) ((decide_eq_false (Int.not_le.2 a6)).trans HE.out), K1⟩
              · have HE : Hid (false = res) := HF.out (by omega)
                clear HF HT a4 a5
                obtain ⟨t, ht⟩ : ∃ t, wrap64 (wrap64 (u - down) - up) = t := ⟨_, rfl⟩
                by_cases a7 : f ≤ t
                · go_enter Try.func9, Try.ntmps9
                  go_wp2_with (first
                    | (go_at_call 21; rw [← HW.out]; refine (HD.out _).mono ?_; rintro e w1 ⟨rfl, k1⟩; have K1 : Kp w w1 := k0.trans k1; have D1 := D0.kp k1; have X1 := X0.kp k1; have d2 := D1.c2; have d3 := D1.c3; have x0 := X1.c0; have x1 := X1.c1)
                    | fail)
                  go_ret
                  first | exact ⟨congrArg (fun x => Ending.returned (Value.bool x)) HE.out, K1⟩ | exact ⟨congrArg (fun x => Ending.returned (Value.bool x)) ((decide_eq_false (Int.not_le.2 a6)).trans HE.out), K1⟩
                · go_enter Try.func9, Try.ntmps9
                  go_wp2_with (first
                    | (go_at_call 21; rw [← HW.out]; refine (HD.out _).mono ?_; rintro e w1 ⟨rfl, k1⟩; have K1 : Kp w w1 := k0.trans k1; have D1 := D0.kp k1; have X1 := X0.kp k1; have d2 := D1.c2; have d3 := D1.c3; have x0 := X1.c0; have x1 := X1.c1)
                    | fail)
                  go_ret
                  first | exact ⟨congrArg (fun x => Ending.returned (Value.bool x)) HE.out, K1⟩ | exact ⟨congrArg (fun x => Ending.returned (Value.bool x)) ((decide_eq_false (Int.not_le.2 a6)).trans HE.out), K1⟩
          · have b0 : (f == 0) = false := by simpa using a4
            by_cases a6 : 0 ≤ u
            · have v1 : wrap64 (u - down) = u - down := IntWalk.wrap64_in _ (by omega)
              have v2 : wrap64 (u - down - up) = u - down - up := IntWalk.wrap64_in _ (by omega)
              by_cases a7 : f ≤ u - down - up
              · have HE : Hid (true = res) := HT.out (by omega)
                clear HF HT a4
                go_enter Try.func9, Try.ntmps9
                go_wp2_with (first
                  | (go_at_call 21; rw [← HW.out]; refine (HD.out _).mono ?_; rintro e w1 ⟨rfl, k1⟩; have K1 : Kp w w1 := k0.trans k1; have D1 := D0.kp k1; have X1 := X0.kp k1; have d2 := D1.c2; have d3 := D1.c3; have x0 := X1.c0; have x1 := X1.c1)
                  | fail)
                go_ret
                first | exact ⟨congrArg (fun x => Ending.returned (Value.bool x)) HE.out, K1⟩ | exact ⟨congrArg (fun x => Ending.returned (Value.bool x)) ((decide_eq_false (Int.not_le.2 a6)).trans HE.out), K1⟩
              · have HE : Hid (false = res) := HF.out (by omega)
                clear HF HT a4
                go_enter Try.func9, Try.ntmps9
                go_wp2_with (first
                  | (go_at_call 21; rw [← HW.out]; refine (HD.out _).mono ?_; rintro e w1 ⟨rfl, k1⟩; have K1 : Kp w w1 := k0.trans k1; have D1 := D0.kp k1; have X1 := X0.kp k1; have d2 := D1.c2; have d3 := D1.c3; have x0 := X1.c0; have x1 := X1.c1)
                  | fail)
                go_ret
                first | exact ⟨congrArg (fun x => Ending.returned (Value.bool x)) HE.out, K1⟩ | exact ⟨congrArg (fun x => Ending.returned (Value.bool x)) ((decide_eq_false (Int.not_le.2 a6)).trans HE.out), K1⟩
            · have HE : Hid (false = res) := HF.out (by omega)
              clear HF HT a4
              obtain ⟨t, ht⟩ : ∃ t, wrap64 (wrap64 (u - down) - up) = t := ⟨_, rfl⟩
              by_cases a7 : f ≤ t
              · go_enter Try.func9, Try.ntmps9
                go_wp2_with (first
                  | (go_at_call 21; rw [← HW.out]; refine (HD.out _).mono ?_; rintro e w1 ⟨rfl, k1⟩; have K1 : Kp w w1 := k0.trans k1; have D1 := D0.kp k1; have X1 := X0.kp k1; have d2 := D1.c2; have d3 := D1.c3; have x0 := X1.c0; have x1 := X1.c1)
                  | fail)
                go_ret
                first | exact ⟨congrArg (fun x => Ending.returned (Value.bool x)) HE.out, K1⟩ | exact ⟨congrArg (fun x => Ending.returned (Value.bool x)) ((decide_eq_false (Int.not_le.2 a6)).trans HE.out), K1⟩
              · go_enter Try.func9, Try.ntmps9
                go_wp2_with (first
                  | (go_at_call 21; rw [← HW.out]; refine (HD.out _).mono ?_; rintro e w1 ⟨rfl, k1⟩; have K1 : Kp w w1 := k0.trans k1; have D1 := D0.kp k1; have X1 := X0.kp k1; have d2 := D1.c2; have d3 := D1.c3; have x0 := X1.c0; have x1 := X1.c1)
                  | fail)
                go_ret
                first | exact ⟨congrArg (fun x => Ending.returned (Value.bool x)) HE.out, K1⟩ | exact ⟨congrArg (fun x => Ending.returned (Value.bool x)) ((decide_eq_false (Int.not_le.2 a6)).trans HE.out), K1⟩
        · have HE : Hid (false = res) := HF.out (by omega)
          clear HF HT
          go_enter Try.func9, Try.ntmps9
          go_wp2_with (first
            | (go_at_call 21; rw [← HW.out]; refine (HD.out _).mono ?_; rintro e w1 ⟨rfl, k1⟩; have K1 : Kp w w1 := k0.trans k1; have D1 := D0.kp k1; have X1 := X0.kp k1; have d2 := D1.c2; have d3 := D1.c3; have x0 := X1.c0; have x1 := X1.c1)
            | fail)
          go_ret
          first | exact ⟨congrArg (fun x => Ending.returned (Value.bool x)) HE.out, K1⟩ | exact ⟨congrArg (fun x => Ending.returned (Value.bool x)) ((decide_eq_false (Int.not_le.2 a6)).trans HE.out), K1⟩
      · have HE : Hid (false = res) := HF.out (by omega)
        clear HF HT
        go_enter Try.func9, Try.ntmps9
        go_wp2_with (first
          | (go_at_call 21; rw [← HW.out]; refine (HD.out _).mono ?_; rintro e w1 ⟨rfl, k1⟩; have K1 : Kp w w1 := k0.trans k1; have D1 := D0.kp k1; have X1 := X0.kp k1; have d2 := D1.c2; have d3 := D1.c3; have x0 := X1.c0; have x1 := X1.c1)
          | fail)
        go_ret
        first | exact ⟨congrArg (fun x => Ending.returned (Value.bool x)) HE.out, K1⟩ | exact ⟨congrArg (fun x => Ending.returned (Value.bool x)) ((decide_eq_false (Int.not_le.2 a6)).trans HE.out), K1⟩
    · have HE : Hid (false = res) := HF.out (by omega)
      clear HF HT
      go_enter Try.func9, Try.ntmps9
      go_wp2_with (first
        | (go_at_call 21; rw [← HW.out]; refine (HD.out _).mono ?_; rintro e w1 ⟨rfl, k1⟩; have K1 : Kp w w1 := k0.trans k1; have D1 := D0.kp k1; have X1 := X0.kp k1; have d2 := D1.c2; have d3 := D1.c3; have x0 := X1.c0; have x1 := X1.c1)
        | fail)
      go_ret
      first | exact ⟨congrArg (fun x => Ending.returned (Value.bool x)) HE.out, K1⟩ | exact ⟨congrArg (fun x => Ending.returned (Value.bool x)) ((decide_eq_false (Int.not_le.2 a6)).trans HE.out), K1⟩

end Go.Proofs.Ytnjakfkafecmlaa.DV
