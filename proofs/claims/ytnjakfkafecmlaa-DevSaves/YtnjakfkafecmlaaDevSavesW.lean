/- The walk of DevSaves. -/
import Derived.Test.YtnjakfkafecmlaaDevFacts
namespace Go.Proofs.Ytnjakfkafecmlaa.DV
open Go.ChangeShapes Go.WideShapes Go.ChangeAt Go.RowKit Go.Proofs.Ytnjakfkafecmlaa.AR Go.Proofs.Ytnjakfkafecmlaa.TB

theorem st_end' (down up f u : Int) : stI down up f u u = 1 := if_pos (.inr (.inr (Int.le_refl u)))

/-- away for its Even or longer it has cost no more than if it had been on -/
theorem saves {on off down up downE upE even now til : Int} (h : awayB on off down up downE upE even = true) (hn : 0 ≤ now ∧ now ≤ 1099511627776) (ht : 0 ≤ til ∧ til ≤ 1099511627776) (he : even ≤ til - now) :
    enI on off down up downE upE now til til ≤ on * (til - now) ∧ 0 ≤ on * (til - now) ∧ on * (til - now) ≤ 65536 * 1099511627776 := by
  obtain ⟨h1, h2, h3, h4, h5, h6, hE, h8⟩ := awayB_t.1 h
  refine ⟨?_, mul_bound (a := on) (b := til - now) (A := 65536) (B := 1099511627776) h1.1 h1.2 (by omega) (by omega)⟩
  rw [en_was (by omega : ¬ (now = 0 ∧ til = 0)), if_pos (by omega : now ≤ til), if_pos (by omega : til - up ≤ til), show max 0 (til - til) = 0 from by omega, show max 0 (min (til - up) til - (now + down)) = (even - down - up) + (til - now - even) from by omega, Int.mul_add, show on * (til - now) = on * even + on * (til - now - even) from by rw [← Int.mul_add]; congr 1; omega]
  have m3 : off * (til - now - even) ≤ on * (til - now - even) := Int.mul_le_mul_of_nonneg_right h2.2 (by omega)
  omega

set_option maxHeartbeats 8000000 in
theorem devSaves_walk (on off down up downE upE even f u now til : Int) (w : World) (_ : (Lit.int .i64 now).wf = true) (_ : (Lit.int .i64 til).wf = true) :
    Calls Try.prog 8 #[.agg #[.int .i64 on, .int .i64 off, .int .i64 down, .int .i64 up, .int .i64 downE, .int .i64 upE, .int .i64 even], .agg #[.int .i64 f, .int .i64 u], .int .i64 now, .int .i64 til] w
      fun e w' => e = .returned (.bool true) ∧ Below w.heap.size w w' := by
  have HE : Hid (∀ w', Kp w w' → Below w.heap.size w w') := fun w' q => q
  obtain ⟨W0, HW⟩ : ∃ W0, Hid (W0 = (w.alloc (.cells #[.int .i64 on, .int .i64 off, .int .i64 down, .int .i64 up, .int .i64 downE, .int .i64 upE, .int .i64 even] 23)).alloc (.cells #[.int .i64 f, .int .i64 u] 25)) := ⟨_, rfl⟩
  obtain ⟨k0, D0, X0⟩ := two_boxes HW.out
  have HR : Hid (∀ W, Calls Try.prog 9 #[.agg #[.int .i64 on, .int .i64 off, .int .i64 down, .int .i64 up, .int .i64 downE, .int .i64 upE, .int .i64 even], .agg #[.int .i64 f, .int .i64 u]] W fun e w' => e = .returned (.bool (awayB on off down up downE upE even && rxB down up f u)) ∧ Kp W w') := fun W => right_any on off down up downE upE even f u W
  have HM : Hid (∀ W, Calls Try.prog 10 #[.int .i64 now] W fun e w' => e = .returned (.bool (moB now)) ∧ W = w') := fun W => moment_any now W
  have HN : Hid (∀ W, Calls Try.prog 10 #[.int .i64 til] W fun e w' => e = .returned (.bool (moB til)) ∧ W = w') := fun W => moment_any til W
  have HB : Hid (∀ W, Calls Try.prog 11 #[] W fun e w' => e = .returned (.bool true) ∧ Kp W w') := answers_any
  obtain ⟨r, hr⟩ : ∃ r, (awayB on off down up downE upE even && rxB down up f u) = r := ⟨_, rfl⟩
  rw [hr] at HR
  obtain ⟨m, hm⟩ : ∃ m, moB now = m := ⟨_, rfl⟩
  rw [hm] at HM
  obtain ⟨n, hn⟩ : ∃ n, moB til = n := ⟨_, rfl⟩
  rw [hn] at HN
  by_cases hall : (r && m && n) = true
  · rw [Bool.and_eq_true, Bool.and_eq_true] at hall
    obtain ⟨⟨rfl, rfl⟩, rfl⟩ := hall
    obtain ⟨ho, hO, hd, hu, hde, hue, hev, hf, hv, hfu⟩ := right_facts hr
    have HA : Hid (∀ W, Calls Try.prog 15 #[.agg #[.int .i64 on, .int .i64 off, .int .i64 down, .int .i64 up, .int .i64 downE, .int .i64 upE, .int .i64 even], .agg #[.int .i64 f, .int .i64 u], .int .i64 now, .int .i64 til] W fun e w' => e = .returned (.tuple #[.agg #[.int .i64 (pk (goB down up even f u now til) now f), .int .i64 (pk (goB down up even f u now til) til u)], .bool (goB down up even f u now til)]) ∧ Kp W w') := fun W => away_any on off down up downE upE even f u now til W hd hu hf hv (mo_of hm) (mo_of hn)
    have hn0 := moB_t.1 hm
    have ht0 := moB_t.1 hn
    have HT : Hid (goB down up even f u now til = true → (∀ W, Calls Try.prog 19 #[.agg #[.int .i64 on, .int .i64 off, .int .i64 down, .int .i64 up, .int .i64 downE, .int .i64 upE, .int .i64 even], .agg #[.int .i64 now, .int .i64 til], .int .i64 til] W fun e w' => e = .returned (.int .i64 (enI on off down up downE upE now til til)) ∧ Kp W w') ∧ (∀ W, Calls Try.prog 12 #[.agg #[.int .i64 on, .int .i64 off, .int .i64 down, .int .i64 up, .int .i64 downE, .int .i64 upE, .int .i64 even], .agg #[.int .i64 now, .int .i64 til], .int .i64 til] W fun e w' => e = .returned (.int .i64 1) ∧ Kp W w') ∧ (∀ W, Calls Try.prog 12 #[.agg #[.int .i64 on, .int .i64 off, .int .i64 down, .int .i64 up, .int .i64 downE, .int .i64 upE, .int .i64 even], .agg #[.int .i64 f, .int .i64 u], .int .i64 now] W fun e w' => e = .returned (.int .i64 1) ∧ Kp W w') ∧
        (wrap64 (til - now) = til - now ∧ IntKind.i64.wrap (til - now) = til - now) ∧ (wrap64 (on * (til - now)) = on * (til - now) ∧ IntKind.i64.wrap (on * (til - now)) = on * (til - now)) ∧ even ≤ til - now ∧ enI on off down up downE upE now til til ≤ on * (til - now)) := by
      intro q
      obtain ⟨g1, g2⟩ := goB_t.1 q
      have haw : awayB on off down up downE upE even = true := by rw [Bool.and_eq_true] at hr; exact hr.1
      obtain ⟨e1, e2, e3⟩ := saves haw hn0 ht0 g2
      refine ⟨fun W => energy_any on off down up downE upE even now til til W ho hO hd hu hde hue (mo_of hm) (mo_of hn) (mo_of hn), fun W => ?_, fun W => ?_, wr (by omega), wr (by omega), g2, e1⟩
      · have := state_any on off down up downE upE even now til til W hd hu (mo_of hm) (mo_of hn)
        rw [st_end'] at this
        exact this
      · have := state_any on off down up downE upE even f u now W hd hu hf hv
        rw [g1] at this
        exact this
    generalize goB down up even f u now til = g at *
    clear hr hm hn ho hO hd hu hde hue hev hf hv hfu hn0 ht0
    have HF : Hid (∀ W, Calls Try.prog 13 #[.agg #[.int .i64 f, .int .i64 u]] W fun e w' => e = .returned (.agg #[.int .i64 f, .int .i64 u]) ∧ Kp W w') := fun W => from_any f u W
    generalize enI on off down up downE upE now til til = En at *
    cases g
    · have HA : Hid (∀ W, Calls Try.prog 15 #[.agg #[.int .i64 on, .int .i64 off, .int .i64 down, .int .i64 up, .int .i64 downE, .int .i64 upE, .int .i64 even], .agg #[.int .i64 f, .int .i64 u], .int .i64 now, .int .i64 til] W fun e w' => e = .returned (.tuple #[.agg #[.int .i64 f, .int .i64 u], .bool false]) ∧ Kp W w') := HA.out
      clear HT
      go_enter Try.func8, Try.ntmps8
      try dsimp only [List.append]
      go_wp2_with (first
        | (go_at_call 9; rw [← HW.out]; refine (HR.out _).mono ?_; rintro e w1 ⟨rfl, k1⟩; have K1 := k0.trans k1; have D1 := D0.kp k1; have X1 := X0.kp k1)
        | (go_at_call 10; refine (HM.out _).mono ?_; rintro e w2 ⟨rfl, rfl⟩; clear HM)
        | (go_at_call 10; refine (HN.out _).mono ?_; rintro e w2 ⟨rfl, rfl⟩)
        | fail)
      clear HR HN D0 X0 k0 k1 HW
      obtain ⟨d0, d1, d2, d3, d4, d5, d6⟩ := D1.all
      obtain ⟨x0, x1⟩ := X1.all
      have n0 := World.new_ne w1 ⟨w.heap.size, 0, none⟩ d0
      have n1 := World.new_ne w1 ⟨w.heap.size + 1, 0, none⟩ x0
      go_region_held3 (fun w' => w'.cell? ⟨w.heap.size, 0, none⟩ = some (.int .i64 on) ∧ w'.cell? ⟨w.heap.size, 1, none⟩ = some (.int .i64 off) ∧ w'.cell? ⟨w.heap.size, 2, none⟩ = some (.int .i64 down) ∧ w'.cell? ⟨w.heap.size, 3, none⟩ = some (.int .i64 up) ∧ w'.cell? ⟨w.heap.size, 4, none⟩ = some (.int .i64 downE) ∧ w'.cell? ⟨w.heap.size, 5, none⟩ = some (.int .i64 upE) ∧ w'.cell? ⟨w.heap.size, 6, none⟩ = some (.int .i64 even) ∧
          w'.cell? ⟨w.heap.size + 1, 0, none⟩ = some (.int .i64 f) ∧ w'.cell? ⟨w.heap.size + 1, 1, none⟩ = some (.int .i64 u)) (go_keep) (first
        | (go_at_call 13; refine (HF.out _).mono ?_; rintro e w3 ⟨rfl, k3⟩; (first | (have N3 : B2 w3 w1.heap.size 30 0 0 := b2_new (w := w1) (w' := w3) ⟨k3.os, k3.tape, k3.output, k3.size, k3.block⟩; have J3 : Kp w1 w3 := ((Kp.refl w1).alloc (.cells #[.int .i64 0, .int .i64 0] 30)).trans ⟨k3.os, k3.tape, k3.output, k3.size, k3.block⟩) | (have J3 : Kp w1 w3 := ⟨k3.os, k3.tape, k3.output, k3.size, k3.block⟩)); clear k3; obtain ⟨a0, a1, a2, a3, a4, a5, a6⟩ := (D1.kp J3).all; obtain ⟨b0, b1⟩ := (X1.kp J3).all; have n2 := World.new_ne w3 ⟨w.heap.size, 0, none⟩ a0; have n3 := World.new_ne w3 ⟨w.heap.size + 1, 0, none⟩ b0)
        | (go_at_call 15; refine (HA.out _).mono ?_; rintro e w5 ⟨rfl, k5⟩; (first | (have N5 := N3.kp k5; have J5 : Kp w1 w5 := J3.trans k5; have ha5 : Hid (w1.heap.size ≤ w1.heap.size) := Nat.le_refl _; clear N3) | (have N5 : B2 w5 w3.heap.size 30 0 0 := b2_new (w := w3) (w' := w5) ⟨k5.os, k5.tape, k5.output, k5.size, k5.block⟩; have ha5 : Hid (w1.heap.size ≤ w3.heap.size) := J3.size; have J5 : Kp w1 w5 := (J3.alloc (.cells #[.int .i64 0, .int .i64 0] 30)).trans ⟨k5.os, k5.tape, k5.output, k5.size, k5.block⟩) | (have J5 : Kp w1 w5 := J3.trans ⟨k5.os, k5.tape, k5.output, k5.size, k5.block⟩)); clear k5; (first | (obtain ⟨y0, y1⟩ := N5.all; have g0 := N5.fr 0; have g1 := N5.fr 1) | skip); obtain ⟨p0, p1, p2, p3, p4, p5, p6⟩ := (D1.kp J5).all; obtain ⟨q0, q1⟩ := (X1.kp J5).all; have n4 := World.new_ne w5 ⟨w.heap.size, 0, none⟩ p0; have n5 := World.new_ne w5 ⟨w.heap.size + 1, 0, none⟩ q0)
        | fail)
      all_goals
        clear n0 n1 n2 n3 n4 n5 a0 a1 a2 a3 a4 a5 a6 b0 b1 p0 p1 p2 p3 p4 p5 p6 q0 q1 d0 d1 d2 d3 d4 d5 d6 x0 x1 HA HF
        first
          | (have Y6 : B2 _ w1.heap.size 30 f u := N5.set f u; have J6 := set2_new J5 ha5.out f u; clear N5 ha5 y0 y1 g0 g1; generalize (w5.setCell ⟨w1.heap.size, 0, none⟩ (.int .i64 f)).setCell ⟨w1.heap.size, 1, none⟩ (.int .i64 u) = w6 at *; generalize w1.heap.size = gy at *)
          | (have Y6 : B2 _ w3.heap.size 30 f u := N5.set f u; have J6 := set2_new J5 ha5.out f u; clear N5 ha5 y0 y1 g0 g1; generalize (w5.setCell ⟨w3.heap.size, 0, none⟩ (.int .i64 f)).setCell ⟨w3.heap.size, 1, none⟩ (.int .i64 u) = w6 at *; generalize w3.heap.size = gy at *)
          | (have Y6 : B2 _ w5.heap.size 30 f u := b2_new (w := w5) (Kp.refl (w5.alloc (.cells #[.int .i64 f, .int .i64 u] 30))); have J6 := J5.alloc (.cells #[.int .i64 f, .int .i64 u] 30); generalize w5.alloc (.cells #[.int .i64 f, .int .i64 u] 30) = w6 at *; generalize w5.heap.size = gy at *)
        have D6 := D1.kp J6
        have X6 := X1.kp J6
        have K6 := K1.trans J6
        clear D1 X1 K1 J6 J5 J3
        go_wp2_with (first
          | (go_at_call 11; refine (HB.out _).mono ?_; rintro e w7 ⟨rfl, k7⟩)
          | fail)
        go_ret
        exact ⟨rfl, HE.out _ (K6.trans k7)⟩
    · have HA : Hid (∀ W, Calls Try.prog 15 #[.agg #[.int .i64 on, .int .i64 off, .int .i64 down, .int .i64 up, .int .i64 downE, .int .i64 upE, .int .i64 even], .agg #[.int .i64 f, .int .i64 u], .int .i64 now, .int .i64 til] W fun e w' => e = .returned (.tuple #[.agg #[.int .i64 now, .int .i64 til], .bool true]) ∧ Kp W w') := HA.out
      obtain ⟨hN, hS1, hS2, ⟨v1, v2⟩, ⟨v3, v4⟩, v5, v6⟩ := HT.out rfl
      have HN2 : Hid (∀ W, _) := hN
      have HS1 : Hid (∀ W, _) := hS1
      have HS2 : Hid (∀ W, _) := hS2
      clear HT hN hS1 hS2
      go_enter Try.func8, Try.ntmps8
      try dsimp only [List.append]
      go_wp2_with (first
        | (go_at_call 9; rw [← HW.out]; refine (HR.out _).mono ?_; rintro e w1 ⟨rfl, k1⟩; have K1 := k0.trans k1; have D1 := D0.kp k1; have X1 := X0.kp k1)
        | (go_at_call 10; refine (HM.out _).mono ?_; rintro e w2 ⟨rfl, rfl⟩; clear HM)
        | (go_at_call 10; refine (HN.out _).mono ?_; rintro e w2 ⟨rfl, rfl⟩)
        | fail)
      clear HR HN D0 X0 k0 k1 HW
      obtain ⟨d0, d1, d2, d3, d4, d5, d6⟩ := D1.all
      obtain ⟨x0, x1⟩ := X1.all
      have n0 := World.new_ne w1 ⟨w.heap.size, 0, none⟩ d0
      have n1 := World.new_ne w1 ⟨w.heap.size + 1, 0, none⟩ x0
      go_region_held3 (fun w' => w'.cell? ⟨w.heap.size, 0, none⟩ = some (.int .i64 on) ∧ w'.cell? ⟨w.heap.size, 1, none⟩ = some (.int .i64 off) ∧ w'.cell? ⟨w.heap.size, 2, none⟩ = some (.int .i64 down) ∧ w'.cell? ⟨w.heap.size, 3, none⟩ = some (.int .i64 up) ∧ w'.cell? ⟨w.heap.size, 4, none⟩ = some (.int .i64 downE) ∧ w'.cell? ⟨w.heap.size, 5, none⟩ = some (.int .i64 upE) ∧ w'.cell? ⟨w.heap.size, 6, none⟩ = some (.int .i64 even) ∧
          w'.cell? ⟨w.heap.size + 1, 0, none⟩ = some (.int .i64 f) ∧ w'.cell? ⟨w.heap.size + 1, 1, none⟩ = some (.int .i64 u)) (go_keep) (first
        | (go_at_call 13; refine (HF.out _).mono ?_; rintro e w3 ⟨rfl, k3⟩; (first | (have N3 : B2 w3 w1.heap.size 30 0 0 := b2_new (w := w1) (w' := w3) ⟨k3.os, k3.tape, k3.output, k3.size, k3.block⟩; have J3 : Kp w1 w3 := ((Kp.refl w1).alloc (.cells #[.int .i64 0, .int .i64 0] 30)).trans ⟨k3.os, k3.tape, k3.output, k3.size, k3.block⟩) | (have J3 : Kp w1 w3 := ⟨k3.os, k3.tape, k3.output, k3.size, k3.block⟩)); clear k3; obtain ⟨a0, a1, a2, a3, a4, a5, a6⟩ := (D1.kp J3).all; obtain ⟨b0, b1⟩ := (X1.kp J3).all; have n2 := World.new_ne w3 ⟨w.heap.size, 0, none⟩ a0; have n3 := World.new_ne w3 ⟨w.heap.size + 1, 0, none⟩ b0)
        | (go_at_call 15; refine (HA.out _).mono ?_; rintro e w5 ⟨rfl, k5⟩; (first | (have N5 := N3.kp k5; have J5 : Kp w1 w5 := J3.trans k5; have ha5 : Hid (w1.heap.size ≤ w1.heap.size) := Nat.le_refl _; clear N3) | (have N5 : B2 w5 w3.heap.size 30 0 0 := b2_new (w := w3) (w' := w5) ⟨k5.os, k5.tape, k5.output, k5.size, k5.block⟩; have ha5 : Hid (w1.heap.size ≤ w3.heap.size) := J3.size; have J5 : Kp w1 w5 := (J3.alloc (.cells #[.int .i64 0, .int .i64 0] 30)).trans ⟨k5.os, k5.tape, k5.output, k5.size, k5.block⟩) | (have J5 : Kp w1 w5 := J3.trans ⟨k5.os, k5.tape, k5.output, k5.size, k5.block⟩)); clear k5; (first | (obtain ⟨y0, y1⟩ := N5.all; have g0 := N5.fr 0; have g1 := N5.fr 1) | skip); obtain ⟨p0, p1, p2, p3, p4, p5, p6⟩ := (D1.kp J5).all; obtain ⟨q0, q1⟩ := (X1.kp J5).all; have n4 := World.new_ne w5 ⟨w.heap.size, 0, none⟩ p0; have n5 := World.new_ne w5 ⟨w.heap.size + 1, 0, none⟩ q0)
        | fail)
      all_goals
        clear n0 n1 n2 n3 n4 n5 a0 a1 a2 a3 a4 a5 a6 b0 b1 p0 p1 p2 p3 p4 p5 p6 q0 q1 d0 d1 d2 d3 d4 d5 d6 x0 x1 HA
        first
          | (have Y6 : B2 _ w1.heap.size 30 now til := N5.set now til; have J6 := set2_new J5 ha5.out now til; clear N5 ha5 y0 y1 g0 g1; generalize (w5.setCell ⟨w1.heap.size, 0, none⟩ (.int .i64 now)).setCell ⟨w1.heap.size, 1, none⟩ (.int .i64 til) = w6 at *; generalize w1.heap.size = gy at *)
          | (have Y6 : B2 _ w3.heap.size 30 now til := N5.set now til; have J6 := set2_new J5 ha5.out now til; clear N5 ha5 y0 y1 g0 g1; generalize (w5.setCell ⟨w3.heap.size, 0, none⟩ (.int .i64 now)).setCell ⟨w3.heap.size, 1, none⟩ (.int .i64 til) = w6 at *; generalize w3.heap.size = gy at *)
          | (have Y6 : B2 _ w5.heap.size 30 now til := b2_new (w := w5) (Kp.refl (w5.alloc (.cells #[.int .i64 now, .int .i64 til] 30))); have J6 := J5.alloc (.cells #[.int .i64 now, .int .i64 til] 30); generalize w5.alloc (.cells #[.int .i64 now, .int .i64 til] 30) = w6 at *; generalize w5.heap.size = gy at *)
        have D6 := D1.kp J6
        have X6 := X1.kp J6
        have K6 := K1.trans J6
        clear D1 X1 K1 J6 J5 J3
        obtain ⟨d0, d1, d2, d3, d4, d5, d6⟩ := D6.all
        obtain ⟨x0, x1⟩ := X6.all
        obtain ⟨y0, y1⟩ := Y6.all
        go_wp2_with fail
        try dsimp only [List.append]
        go_region_held3 (fun w' => w'.cell? ⟨w.heap.size, 0, none⟩ = some (.int .i64 on) ∧ w'.cell? ⟨w.heap.size, 1, none⟩ = some (.int .i64 off) ∧ w'.cell? ⟨w.heap.size, 2, none⟩ = some (.int .i64 down) ∧ w'.cell? ⟨w.heap.size, 3, none⟩ = some (.int .i64 up) ∧ w'.cell? ⟨w.heap.size, 4, none⟩ = some (.int .i64 downE) ∧ w'.cell? ⟨w.heap.size, 5, none⟩ = some (.int .i64 upE) ∧ w'.cell? ⟨w.heap.size, 6, none⟩ = some (.int .i64 even) ∧ w'.cell? ⟨w.heap.size + 1, 0, none⟩ = some (.int .i64 f) ∧ w'.cell? ⟨w.heap.size + 1, 1, none⟩ = some (.int .i64 u) ∧ w'.cell? ⟨gy, 0, none⟩ = some (.int .i64 now) ∧ w'.cell? ⟨gy, 1, none⟩ = some (.int .i64 til)) (go_keep) (first
          | (go_at_call 11; refine (HB.out _).mono ?_; rintro e w7 ⟨rfl, k7⟩; have J : Kp w6 w7 := ⟨k7.os, k7.tape, k7.output, k7.size, k7.block⟩; clear k7; obtain ⟨d0, d1, d2, d3, d4, d5, d6⟩ := (D6.kp J).all; obtain ⟨x0, x1⟩ := (X6.kp J).all; obtain ⟨y0, y1⟩ := (Y6.kp J).all)
          | (go_at_call 19; refine (HN2.out _).mono ?_; rintro e w8 ⟨rfl, k8⟩; have J := J.trans k8; clear k8; obtain ⟨d0, d1, d2, d3, d4, d5, d6⟩ := (D6.kp J).all; obtain ⟨x0, x1⟩ := (X6.kp J).all; obtain ⟨y0, y1⟩ := (Y6.kp J).all)
          | (go_at_call 12; refine (HS1.out _).mono ?_; rintro e w9 ⟨rfl, k9⟩; have J := J.trans k9; clear k9 HS1; obtain ⟨d0, d1, d2, d3, d4, d5, d6⟩ := (D6.kp J).all; obtain ⟨x0, x1⟩ := (X6.kp J).all; obtain ⟨y0, y1⟩ := (Y6.kp J).all)
          | (go_at_call 13; refine (HF.out _).mono ?_; rintro e wA ⟨rfl, kA⟩; have J := J.trans kA; clear kA; obtain ⟨d0, d1, d2, d3, d4, d5, d6⟩ := (D6.kp J).all; obtain ⟨x0, x1⟩ := (X6.kp J).all; obtain ⟨y0, y1⟩ := (Y6.kp J).all)
          | (go_at_call 12; refine (HS2.out _).mono ?_; rintro e wB ⟨rfl, kB⟩; have J := J.trans kB; clear kB; obtain ⟨d0, d1, d2, d3, d4, d5, d6⟩ := (D6.kp J).all; obtain ⟨x0, x1⟩ := (X6.kp J).all; obtain ⟨y0, y1⟩ := (Y6.kp J).all)
          | fail)
        all_goals
          go_wp2
          go_ret
          exact ⟨rfl, HE.out _ (K6.trans J)⟩
  · clear hr hm hn
    cases r
    · clear hall
      go_enter Try.func8, Try.ntmps8
      try dsimp only [List.append]
      go_wp2_with (first
        | (go_at_call 9; rw [← HW.out]; refine (HR.out _).mono ?_; rintro e w1 ⟨rfl, k1⟩; have K1 := k0.trans k1)
        | (go_at_call 11; refine (HB.out _).mono ?_; rintro e w2 ⟨rfl, k2⟩; have K2 := K1.trans k2)
        | fail)
      go_ret
      exact ⟨rfl, HE.out _ K2⟩
    · cases m
      · clear hall
        go_enter Try.func8, Try.ntmps8
        try dsimp only [List.append]
        go_wp2_with (first
          | (go_at_call 9; rw [← HW.out]; refine (HR.out _).mono ?_; rintro e w1 ⟨rfl, k1⟩; have K1 := k0.trans k1)
          | (go_at_call 10; refine (HM.out _).mono ?_; rintro e w2 ⟨rfl, rfl⟩)
          | (go_at_call 11; refine (HB.out _).mono ?_; rintro e w2 ⟨rfl, k2⟩; have K2 := K1.trans k2)
          | fail)
        go_ret
        exact ⟨rfl, HE.out _ K2⟩
      · have e : n = false := by cases n <;> simp_all
        subst e
        clear hall
        go_enter Try.func8, Try.ntmps8
        try dsimp only [List.append]
        go_wp2_with (first
          | (go_at_call 9; rw [← HW.out]; refine (HR.out _).mono ?_; rintro e w1 ⟨rfl, k1⟩; have K1 := k0.trans k1)
          | (go_at_call 10; refine (HM.out _).mono ?_; rintro e w2 ⟨rfl, rfl⟩; clear HM)
          | (go_at_call 10; refine (HN.out _).mono ?_; rintro e w2 ⟨rfl, rfl⟩)
          | (go_at_call 11; refine (HB.out _).mono ?_; rintro e w2 ⟨rfl, k2⟩; have K2 := K1.trans k2)
          | fail)
        go_ret
        exact ⟨rfl, HE.out _ K2⟩

end Go.Proofs.Ytnjakfkafecmlaa.DV
