/- The walk of DevAways. -/
import Derived.Test.YtnjakfkafecmlaaDevFacts
namespace Go.Proofs.Ytnjakfkafecmlaa.DV
open Go.ChangeShapes Go.WideShapes Go.ChangeAt Go.RowKit Go.Proofs.Ytnjakfkafecmlaa.AR Go.Proofs.Ytnjakfkafecmlaa.TB

set_option maxHeartbeats 4000000 in
theorem devAways_walk (on off down up downE upE even f u now til : Int) (w : World) (_ : (Lit.int .i64 now).wf = true) (_ : (Lit.int .i64 til).wf = true) :
    Calls Try.prog 4 #[.agg #[.int .i64 on, .int .i64 off, .int .i64 down, .int .i64 up, .int .i64 downE, .int .i64 upE, .int .i64 even], .agg #[.int .i64 f, .int .i64 u], .int .i64 now, .int .i64 til] w
      fun e w' => e = .returned (.bool true) ∧ Below w.heap.size w w' := by
  have HE : Hid (∀ w', Kp w w' → Below w.heap.size w w') := fun w' q => q
  obtain ⟨W0, HW⟩ : ∃ W0, Hid (W0 = (w.alloc (.cells #[.int .i64 on, .int .i64 off, .int .i64 down, .int .i64 up, .int .i64 downE, .int .i64 upE, .int .i64 even] 23)).alloc (.cells #[.int .i64 f, .int .i64 u] 25)) := ⟨_, rfl⟩
  obtain ⟨k0, D0, X0⟩ := two_boxes HW.out
  have HR : Hid (∀ W, Calls Try.prog 9 #[.agg #[.int .i64 on, .int .i64 off, .int .i64 down, .int .i64 up, .int .i64 downE, .int .i64 upE, .int .i64 even], .agg #[.int .i64 f, .int .i64 u]] W fun e w' => e = .returned (.bool (awayB on off down up downE upE even && rxB down up f u)) ∧ Kp W w') := fun W => right_any on off down up downE upE even f u W
  have HM : Hid (∀ W, Calls Try.prog 10 #[.int .i64 now] W fun e w' => e = .returned (.bool (moB now)) ∧ W = w') := fun W => moment_any now W
  have HN : Hid (∀ W, Calls Try.prog 10 #[.int .i64 til] W fun e w' => e = .returned (.bool (moB til)) ∧ W = w') := fun W => moment_any til W
  have HB : Hid (∀ W, Calls Try.prog 11 #[] W fun e w' => e = .returned (.bool true) ∧ Kp W w') := answers_any
  obtain ⟨r, hr⟩ : ∃ r, (awayB on off down up downE upE even && rxB down up f u) = r := ⟨_, rfl⟩
  rw [hr] at HR
  obtain ⟨m, hm⟩ : ∃ m, moB now = m := ⟨_, rfl⟩
  rw [hm] at HM
  obtain ⟨n, hn⟩ : ∃ n, moB til = n := ⟨_, rfl⟩
  rw [hn] at HN
  by_cases hall : (r && m && n) = true
  · rw [Bool.and_eq_true, Bool.and_eq_true] at hall
    obtain ⟨⟨rfl, rfl⟩, rfl⟩ := hall
    obtain ⟨ho, hO, hd, hu, hde, hue, hev, hf, hv, hfu⟩ := right_facts hr
    have HA : Hid (∀ W, Calls Try.prog 15 #[.agg #[.int .i64 on, .int .i64 off, .int .i64 down, .int .i64 up, .int .i64 downE, .int .i64 upE, .int .i64 even], .agg #[.int .i64 f, .int .i64 u], .int .i64 now, .int .i64 til] W fun e w' => e = .returned (.tuple #[.agg #[.int .i64 (pk (goB down up even f u now til) now f), .int .i64 (pk (goB down up even f u now til) til u)], .bool (goB down up even f u now til)]) ∧ Kp W w') := fun W => away_any on off down up downE upE even f u now til W hd hu hf hv (mo_of hm) (mo_of hn)
    have HC : Hid (∀ W, Calls Try.prog 16 #[.agg #[.int .i64 on, .int .i64 off, .int .i64 down, .int .i64 up, .int .i64 downE, .int .i64 upE, .int .i64 even], .agg #[.int .i64 f, .int .i64 u], .int .i64 now, .int .i64 til] W fun e w' => e = .returned (.tuple #[.agg #[.int .i64 (pk (goB down up even f u now til) now f), .int .i64 (pk (goB down up even f u now til) til u)], .bool (goB down up even f u now til)]) ∧ Kp W w') := fun W => raway_any on off down up downE upE even f u now til W hd hu hf hv (mo_of hm) (mo_of hn)
    generalize pk (goB down up even f u now til) now f = yf at *
    generalize pk (goB down up even f u now til) til u = yu at *
    generalize goB down up even f u now til = g at *
    clear hr hm hn ho hO hd hu hde hue hev hf hv hfu
    have HF : Hid (∀ W, Calls Try.prog 13 #[.agg #[.int .i64 f, .int .i64 u]] W fun e w' => e = .returned (.agg #[.int .i64 f, .int .i64 u]) ∧ Kp W w') := fun W => from_any f u W
    have HG : Hid (∀ W, Calls Try.prog 13 #[.agg #[.int .i64 yf, .int .i64 yu]] W fun e w' => e = .returned (.agg #[.int .i64 yf, .int .i64 yu]) ∧ Kp W w') := fun W => from_any yf yu W
    have EQ : ∀ w, (Op.equalIn 10000 30 (.agg #[.int .i64 yf, .int .i64 yu]) (.agg #[.int .i64 yf, .int .i64 yu])).run Try.prog w = .ok true w := fun w => by rw [eq2d]; simp
    go_enter Try.func4, Try.ntmps4
    go_wp2_with (first
      | (go_at_call 9; rw [← HW.out]; refine (HR.out _).mono ?_; rintro e w1 ⟨rfl, k1⟩; have K1 := k0.trans k1; have D1 := D0.kp k1; have X1 := X0.kp k1)
      | (go_at_call 10; refine (HM.out _).mono ?_; rintro e w2 ⟨rfl, rfl⟩; clear HM)
      | (go_at_call 10; refine (HN.out _).mono ?_; rintro e w2 ⟨rfl, rfl⟩)
      | fail)
    clear HR HN D0 X0 k0 k1 HW
    obtain ⟨d0, d1, d2, d3, d4, d5, d6⟩ := D1.all
    obtain ⟨x0, x1⟩ := X1.all
    have n0 := World.new_ne w1 ⟨w.heap.size, 0, none⟩ d0
    have n1 := World.new_ne w1 ⟨w.heap.size + 1, 0, none⟩ x0
    go_region_held3 (fun w' => w'.cell? ⟨w.heap.size, 0, none⟩ = some (.int .i64 on) ∧ w'.cell? ⟨w.heap.size, 1, none⟩ = some (.int .i64 off) ∧ w'.cell? ⟨w.heap.size, 2, none⟩ = some (.int .i64 down) ∧ w'.cell? ⟨w.heap.size, 3, none⟩ = some (.int .i64 up) ∧ w'.cell? ⟨w.heap.size, 4, none⟩ = some (.int .i64 downE) ∧ w'.cell? ⟨w.heap.size, 5, none⟩ = some (.int .i64 upE) ∧ w'.cell? ⟨w.heap.size, 6, none⟩ = some (.int .i64 even) ∧
        w'.cell? ⟨w.heap.size + 1, 0, none⟩ = some (.int .i64 f) ∧ w'.cell? ⟨w.heap.size + 1, 1, none⟩ = some (.int .i64 u)) (go_keep) (first
      | (go_at_call 13; refine (HF.out _).mono ?_; rintro e w3 ⟨rfl, k3⟩; (first | (have N3 : B2 w3 w1.heap.size 30 0 0 := b2_new (w := w1) (w' := w3) ⟨k3.os, k3.tape, k3.output, k3.size, k3.block⟩; have J3 : Kp w1 w3 := ((Kp.refl w1).alloc (.cells #[.int .i64 0, .int .i64 0] 30)).trans ⟨k3.os, k3.tape, k3.output, k3.size, k3.block⟩) | (have J3 : Kp w1 w3 := ⟨k3.os, k3.tape, k3.output, k3.size, k3.block⟩)); clear k3; obtain ⟨a0, a1, a2, a3, a4, a5, a6⟩ := (D1.kp J3).all; obtain ⟨b0, b1⟩ := (X1.kp J3).all; have n2 := World.new_ne w3 ⟨w.heap.size, 0, none⟩ a0; have n3 := World.new_ne w3 ⟨w.heap.size + 1, 0, none⟩ b0)
      | (go_at_call 15; refine (HA.out _).mono ?_; rintro e w5 ⟨rfl, k5⟩; (first | (have N5 := N3.kp k5; have J5 : Kp w1 w5 := J3.trans k5; have ha5 : Hid (w1.heap.size ≤ w1.heap.size) := Nat.le_refl _; clear N3) | (have N5 : B2 w5 w3.heap.size 30 0 0 := b2_new (w := w3) (w' := w5) ⟨k5.os, k5.tape, k5.output, k5.size, k5.block⟩; have ha5 : Hid (w1.heap.size ≤ w3.heap.size) := J3.size; have J5 : Kp w1 w5 := (J3.alloc (.cells #[.int .i64 0, .int .i64 0] 30)).trans ⟨k5.os, k5.tape, k5.output, k5.size, k5.block⟩) | (have J5 : Kp w1 w5 := J3.trans ⟨k5.os, k5.tape, k5.output, k5.size, k5.block⟩)); clear k5; (first | (obtain ⟨y0, y1⟩ := N5.all; have g0 := N5.fr 0; have g1 := N5.fr 1) | skip); obtain ⟨p0, p1, p2, p3, p4, p5, p6⟩ := (D1.kp J5).all; obtain ⟨q0, q1⟩ := (X1.kp J5).all; have n4 := World.new_ne w5 ⟨w.heap.size, 0, none⟩ p0; have n5 := World.new_ne w5 ⟨w.heap.size + 1, 0, none⟩ q0)
      | fail)
    all_goals
      clear n0 n1 n2 n3 n4 n5 a0 a1 a2 a3 a4 a5 a6 b0 b1 p0 p1 p2 p3 p4 p5 p6 q0 q1 d0 d1 d2 d3 d4 d5 d6 x0 x1 HA HF
      first
        | (have Y6 : B2 _ w1.heap.size 30 yf yu := N5.set yf yu; have J6 := set2_new J5 ha5.out yf yu; clear N5 ha5 y0 y1 g0 g1; generalize (w5.setCell ⟨w1.heap.size, 0, none⟩ (.int .i64 yf)).setCell ⟨w1.heap.size, 1, none⟩ (.int .i64 yu) = w6 at *; generalize w1.heap.size = gy at *)
        | (have Y6 : B2 _ w3.heap.size 30 yf yu := N5.set yf yu; have J6 := set2_new J5 ha5.out yf yu; clear N5 ha5 y0 y1 g0 g1; generalize (w5.setCell ⟨w3.heap.size, 0, none⟩ (.int .i64 yf)).setCell ⟨w3.heap.size, 1, none⟩ (.int .i64 yu) = w6 at *; generalize w3.heap.size = gy at *)
        | (have Y6 : B2 _ w5.heap.size 30 yf yu := b2_new (w := w5) (Kp.refl (w5.alloc (.cells #[.int .i64 yf, .int .i64 yu] 30))); have J6 := J5.alloc (.cells #[.int .i64 yf, .int .i64 yu] 30); generalize w5.alloc (.cells #[.int .i64 yf, .int .i64 yu] 30) = w6 at *; generalize w5.heap.size = gy at *)
      have D6 := D1.kp J6
      have X6 := X1.kp J6
      have K6 := K1.trans J6
      clear D1 X1 K1 J6 J5 J3
      obtain ⟨d0, d1, d2, d3, d4, d5, d6⟩ := D6.all
      obtain ⟨x0, x1⟩ := X6.all
      go_wp2_with (first
        | (go_at_call 16; refine (HC.out _).mono ?_; rintro e w7 ⟨rfl, k7⟩)
        | fail)
      have Y8 := (Y6.kp k7).kp ((Kp.refl w7).alloc (.cells #[.int .i64 yf, .int .i64 yu] 25))
      have Z8 : B2 _ w7.heap.size 25 yf yu := b2_new (w := w7) (Kp.refl (w7.alloc (.cells #[.int .i64 yf, .int .i64 yu] 25)))
      have K8 := (K6.trans k7).alloc (.cells #[.int .i64 yf, .int .i64 yu] 25)
      clear k7 Y6 K6 d0 d1 d2 d3 d4 d5 d6 x0 x1 D6 X6
      generalize w7.alloc (.cells #[.int .i64 yf, .int .i64 yu] 25) = w8 at *
      generalize w7.heap.size = gz at *
      obtain ⟨y0, y1⟩ := Y8.all
      obtain ⟨z0, z1⟩ := Z8.all
      go_region_held3 (fun w' => w'.cell? ⟨gy, 0, none⟩ = some (.int .i64 yf) ∧ w'.cell? ⟨gy, 1, none⟩ = some (.int .i64 yu) ∧ w'.cell? ⟨gz, 0, none⟩ = some (.int .i64 yf) ∧ w'.cell? ⟨gz, 1, none⟩ = some (.int .i64 yu)) (go_keep) (first
        | (go_at_call 11; refine (HB.out _).mono ?_; rintro e w9 ⟨rfl, k9⟩; have J9 : Kp w8 w9 := ⟨k9.os, k9.tape, k9.output, k9.size, k9.block⟩; clear k9; obtain ⟨a0, a1⟩ := (Y8.kp J9).all; obtain ⟨b0, b1⟩ := (Z8.kp J9).all)
        | (go_at_call 13; refine (HG.out _).mono ?_; rintro e wA ⟨rfl, kA⟩; have JA : Kp w8 wA := J9.trans kA; clear kA; obtain ⟨e0, e1⟩ := (Y8.kp JA).all; obtain ⟨h0, h1⟩ := (Z8.kp JA).all)
        | fail)
      all_goals
        go_wp2
        go_ret
        exact ⟨rfl, HE.out _ (K8.trans JA)⟩
  · clear hr hm hn
    cases r
    · clear hall
      go_enter Try.func4, Try.ntmps4
      go_wp2_with (first
        | (go_at_call 9; rw [← HW.out]; refine (HR.out _).mono ?_; rintro e w1 ⟨rfl, k1⟩; have K1 := k0.trans k1)
        | (go_at_call 11; refine (HB.out _).mono ?_; rintro e w2 ⟨rfl, k2⟩; have K2 := K1.trans k2)
        | fail)
      go_ret
      exact ⟨rfl, HE.out _ K2⟩
    · cases m
      · clear hall
        go_enter Try.func4, Try.ntmps4
        go_wp2_with (first
          | (go_at_call 9; rw [← HW.out]; refine (HR.out _).mono ?_; rintro e w1 ⟨rfl, k1⟩; have K1 := k0.trans k1)
          | (go_at_call 10; refine (HM.out _).mono ?_; rintro e w2 ⟨rfl, rfl⟩)
          | (go_at_call 11; refine (HB.out _).mono ?_; rintro e w2 ⟨rfl, k2⟩; have K2 := K1.trans k2)
          | fail)
        go_ret
        exact ⟨rfl, HE.out _ K2⟩
      · have e : n = false := by cases n <;> simp_all
        subst e
        clear hall
        go_enter Try.func4, Try.ntmps4
        go_wp2_with (first
          | (go_at_call 9; rw [← HW.out]; refine (HR.out _).mono ?_; rintro e w1 ⟨rfl, k1⟩; have K1 := k0.trans k1)
          | (go_at_call 10; refine (HM.out _).mono ?_; rintro e w2 ⟨rfl, rfl⟩; clear HM)
          | (go_at_call 10; refine (HN.out _).mono ?_; rintro e w2 ⟨rfl, rfl⟩)
          | (go_at_call 11; refine (HB.out _).mono ?_; rintro e w2 ⟨rfl, k2⟩; have K2 := K1.trans k2)
          | fail)
        go_ret
        exact ⟨rfl, HE.out _ K2⟩

end Go.Proofs.Ytnjakfkafecmlaa.DV
