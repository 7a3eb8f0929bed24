/- What a device has cost, as the program and the document tell it. -/
import Derived.Test.YtnjakfkafecmlaaDevBack
namespace Go.Proofs.Ytnjakfkafecmlaa.DV
open Go.ChangeShapes Go.WideShapes Go.ChangeAt Go.RowKit Go.Proofs.Ytnjakfkafecmlaa.AR Go.Proofs.Ytnjakfkafecmlaa.TB

/-- P7.4 -/
def enI (on off down up downE upE f u now : Int) : Int :=
  if f = 0 ∧ u = 0 then on * now else off * max 0 (min (u - up) now - (f + down)) + on * max 0 (now - u) + (if f ≤ now then downE else 0) + (if u - up ≤ now then upE else 0)

theorem en_never {on off down up downE upE f u now : Int} (h : f = 0 ∧ u = 0) : enI on off down up downE upE f u now = on * now := if_pos h
theorem en_was {on off down up downE upE f u now : Int} (h : ¬ (f = 0 ∧ u = 0)) : enI on off down up downE upE f u now = off * max 0 (min (u - up) now - (f + down)) + on * max 0 (now - u) + (if f ≤ now then downE else 0) + (if u - up ≤ now then upE else 0) := if_neg h

theorem wr {x : Int} (h : -9223372036854775808 ≤ x ∧ x ≤ 9223372036854775807) : wrap64 x = x ∧ IntKind.i64.wrap x = x :=
  ⟨IntWalk.wrap64_in _ (by omega), (IntWalk.i64_left _).trans (IntWalk.wrap64_in _ (by omega))⟩

set_option maxHeartbeats 4000000 in
theorem energy_any (on off down up downE upE even f u now : Int) (w : World) (ho : 0 ≤ on ∧ on ≤ 65536) (hO : 0 ≤ off ∧ off ≤ 65536) (hd : 0 ≤ down ∧ down ≤ 256) (hu : 0 ≤ up ∧ up ≤ 256) (hde : 0 ≤ downE ∧ downE ≤ 65536) (hue : 0 ≤ upE ∧ upE ≤ 65536) (hf : Mo f) (hv : Mo u) (hn : Mo now) :
    Calls Try.prog 19 #[.agg #[.int .i64 on, .int .i64 off, .int .i64 down, .int .i64 up, .int .i64 downE, .int .i64 upE, .int .i64 even], .agg #[.int .i64 f, .int .i64 u], .int .i64 now] w
      fun e w' => e = .returned (.int .i64 (enI on off down up downE upE f u now)) ∧ Kp w w' := by
  obtain ⟨W0, HW⟩ : ∃ W0, Hid (W0 = (w.alloc (.cells #[.int .i64 on, .int .i64 off, .int .i64 down, .int .i64 up, .int .i64 downE, .int .i64 upE, .int .i64 even] 23)).alloc (.cells #[.int .i64 f, .int .i64 u] 30)) := ⟨_, rfl⟩
  obtain ⟨k0, D0, X0⟩ := two_boxes HW.out
  have HN : Hid (∀ W, Calls Try.prog 22 #[.agg #[.int .i64 f, .int .i64 u]] W fun e w' => e = .returned (.bool (nvB f u)) ∧ Kp W w') := fun W => never_any f u W
  unfold Mo at *
  by_cases hz : f = 0 ∧ u = 0
  · have HR : Hid (enI on off down up downE upE f u now = on * now) := en_never hz
    rw [HR.out]; clear HR
    rw [nvB_t.2 hz] at HN
    have b1 : -(65536 * 4398046511104) ≤ on * now ∧ on * now ≤ 65536 * 4398046511104 := by
      by_cases q : 0 ≤ now
      · have := mul_bound (a := on) (b := now) (A := 65536) (B := 4398046511104) ho.1 ho.2 q hn.2; omega
      · have := mul_bound (a := on) (b := -now) (A := 65536) (B := 4398046511104) ho.1 ho.2 (by omega) (by omega)
        rw [Int.mul_neg] at this; omega
    obtain ⟨r1, r2⟩ := wr (x := on * now) (by omega)
    clear b1 hz hf hv hn ho hO hd hu hde hue
    go_enter Try.func19, Try.ntmps19
    go_wp2_with (first
      | (go_at_call 22; rw [← HW.out]; refine (HN.out _).mono ?_; rintro e w1 ⟨rfl, k1⟩; have K1 : Kp w w1 := k0.trans k1; have d0 := (D0.kp k1).c0)
      | fail)
    go_ret
    exact ⟨rfl, K1⟩
  · have HR : Hid (enI on off down up downE upE f u now = off * max 0 (min (u - up) now - (f + down)) + on * max 0 (now - u) + (if f ≤ now then downE else 0) + (if u - up ≤ now then upE else 0)) := en_was hz
    generalize enI on off down up downE upE f u now = res at *
    rw [nvB_f.2 hz] at HN
    have HQ1 : Hid (∀ W, Calls Try.prog 24 #[.int .i64 (f + down), .int .i64 (min (u - up) now)] W fun e w' => e = .returned (.int .i64 (max 0 (min (u - up) now - (f + down)))) ∧ w' = W) := fun W => quanta_any _ _ W (by omega)
    have HQ2 : Hid (∀ W, Calls Try.prog 24 #[.int .i64 u, .int .i64 now] W fun e w' => e = .returned (.int .i64 (max 0 (now - u))) ∧ w' = W) := fun W => quanta_any _ _ W (by omega)
    have m1 := mul_bound (a := off) (b := max 0 (min (u - up) now - (f + down))) (A := 65536) (B := 17592186044416) hO.1 hO.2 (by omega) (by omega)
    have m2 := mul_bound (a := on) (b := max 0 (now - u)) (A := 65536) (B := 17592186044416) ho.1 ho.2 (by omega) (by omega)
    generalize max 0 (min (u - up) now - (f + down)) = q1 at *
    generalize max 0 (now - u) = q2 at *
    obtain ⟨r1, s1⟩ := wr (x := f + down) (by omega)
    obtain ⟨r2, s2⟩ := wr (x := u - up) (by omega)
    obtain ⟨r3, s3⟩ := wr (x := off * q1) (by omega)
    obtain ⟨r4, s4⟩ := wr (x := on * q2) (by omega)
    obtain ⟨r5, s5⟩ := wr (x := off * q1 + on * q2) (by omega)
    obtain ⟨r6, s6⟩ := wr (x := off * q1 + on * q2 + downE) (by omega)
    obtain ⟨r7, s7⟩ := wr (x := off * q1 + on * q2 + upE) (by omega)
    obtain ⟨r8, s8⟩ := wr (x := off * q1 + on * q2 + downE + upE) (by omega)
    clear m1 m2 hf hv hn ho hO hd hu hde hue hz
    go_enter Try.func19, Try.ntmps19
    go_wp2_with (first
      | (go_at_call 22; rw [← HW.out]; refine (HN.out _).mono ?_; rintro e w1 ⟨rfl, k1⟩; have K1 : Kp w w1 := k0.trans k1; have D1 := D0.kp k1; have X1 := X0.kp k1; have d2 := D1.c2; have d3 := D1.c3; have x0 := X1.c0; have x1 := X1.c1)
      | fail)
    go_quiet (fail)
    generalize hwq : World.drewN w1 _ = w2
    have k2 : Kp w1 w2 := by rw [← hwq]; exact kp_drewN _ _
    have K2 : Kp w w2 := K1.trans k2
    have D2 := D1.kp k2
    have X2 := X1.kp k2
    clear hwq d2 d3 x0 x1 D1 X1 k1 k2 D0 X0 k0 HN HW
    have d0 := D2.c0
    have d1 := D2.c1
    have d2 := D2.c2
    have d3 := D2.c3
    have d4 := D2.c4
    have d5 := D2.c5
    have x0 := X2.c0
    have x1 := X2.c1
    go_wp2_with fail
    go_region_held3 (fun w' => w'.cell? ⟨w.heap.size, 0, none⟩ = some (.int .i64 on) ∧ w'.cell? ⟨w.heap.size, 1, none⟩ = some (.int .i64 off) ∧ w'.cell? ⟨w.heap.size + 1, 1, none⟩ = some (.int .i64 u)) (go_keep) (first
      | (go_at_call 24; refine (HQ1.out _).mono ?_; rintro e w3 ⟨rfl, rfl⟩; clear HQ1)
      | (go_at_call 24; refine (HQ2.out _).mono ?_; rintro e w3 ⟨rfl, rfl⟩)
      | fail)
    all_goals
      clear HQ2 D2 X2
      have K3 : Kp w w2.drew := K2.drew
      by_cases a : f ≤ now
      · by_cases b : u - up ≤ now
        · have HE : Hid (off * q1 + on * q2 + downE + upE = res) := by show _ = _; rw [HR.out, if_pos a, if_pos b]
          clear HR
          go_wp2
          go_ret
          exact ⟨congrArg (fun x => Ending.returned (Value.int .i64 x)) HE.out, K3⟩
        · have HE : Hid (off * q1 + on * q2 + downE = res) := by show _ = _; rw [HR.out, if_pos a, if_neg b, Int.add_zero]
          clear HR
          go_wp2
          go_ret
          exact ⟨congrArg (fun x => Ending.returned (Value.int .i64 x)) HE.out, K3⟩
      · by_cases b : u - up ≤ now
        · have HE : Hid (off * q1 + on * q2 + upE = res) := by show _ = _; rw [HR.out, if_neg a, if_pos b, Int.add_zero]
          clear HR
          go_wp2
          go_ret
          exact ⟨congrArg (fun x => Ending.returned (Value.int .i64 x)) HE.out, K3⟩
        · have HE : Hid (off * q1 + on * q2 = res) := by show _ = _; rw [HR.out, if_neg a, if_neg b, Int.add_zero, Int.add_zero]
          clear HR
          go_wp2
          go_ret
          exact ⟨congrArg (fun x => Ending.returned (Value.int .i64 x)) HE.out, K3⟩

set_option maxHeartbeats 4000000 in
theorem renergy_any (on off down up downE upE even f u now : Int) (w : World) (ho : 0 ≤ on ∧ on ≤ 65536) (hO : 0 ≤ off ∧ off ≤ 65536) (hd : 0 ≤ down ∧ down ≤ 256) (hu : 0 ≤ up ∧ up ≤ 256) (hde : 0 ≤ downE ∧ downE ≤ 65536) (hue : 0 ≤ upE ∧ upE ≤ 65536) (hf : Mo f) (hv : Mo u) (hn : Mo now) (hr : (f = 0 ∧ u = 0) ∨ f + down ≤ u - up) :
    Calls Try.prog 20 #[.agg #[.int .i64 on, .int .i64 off, .int .i64 down, .int .i64 up, .int .i64 downE, .int .i64 upE, .int .i64 even], .agg #[.int .i64 f, .int .i64 u], .int .i64 now] w
      fun e w' => e = .returned (.int .i64 (enI on off down up downE upE f u now)) ∧ Kp w w' := by
  obtain ⟨W0, HW⟩ : ∃ W0, Hid (W0 = (w.alloc (.cells #[.int .i64 on, .int .i64 off, .int .i64 down, .int .i64 up, .int .i64 downE, .int .i64 upE, .int .i64 even] 23)).alloc (.cells #[.int .i64 f, .int .i64 u] 25)) := ⟨_, rfl⟩
  obtain ⟨k0, D0, X0⟩ := two_boxes HW.out
  unfold Mo at *
  by_cases hz : f = 0 ∧ u = 0
  · have HR : Hid (enI on off down up downE upE f u now = on * now) := en_never hz
    rw [HR.out]; clear HR
    have b1 : -(65536 * 4398046511104) ≤ on * now ∧ on * now ≤ 65536 * 4398046511104 := by
      by_cases q : 0 ≤ now
      · have := mul_bound (a := on) (b := now) (A := 65536) (B := 4398046511104) ho.1 ho.2 q hn.2; omega
      · have := mul_bound (a := on) (b := -now) (A := 65536) (B := 4398046511104) ho.1 ho.2 (by omega) (by omega)
        rw [Int.mul_neg] at this; omega
    obtain ⟨r1, r2⟩ := wr (x := on * now) (by omega)
    obtain ⟨rfl, rfl⟩ := hz
    clear b1 hf hv hn ho hO hd hu hde hue hr
    go_enter Try.func20, Try.ntmps20
    go_wp2
    go_ret
    rw [← HW.out]
    exact ⟨rfl, k0⟩
  · have HR : Hid (enI on off down up downE upE f u now = off * max 0 (min (u - up) now - (f + down)) + on * max 0 (now - u) + (if f ≤ now then downE else 0) + (if u - up ≤ now then upE else 0)) := en_was hz
    generalize enI on off down up downE upE f u now = res at *
    have hs : f + down ≤ u - up := by omega
    have HM : Hid (∀ W, Calls Try.prog 25 #[.int .i64 now, .int .i64 (u - up)] W fun e w' => e = .returned (.int .i64 (min now (u - up))) ∧ w' = W) := fun W => min_any _ _ W
    have HF : Hid ((f == 0) = false ∨ ((f == 0) = true ∧ (u == 0) = false)) := by
      by_cases q : f = 0
      · exact .inr ⟨by simpa using q, by simp; omega⟩
      · exact .inl (by simpa using q)
    have m2 : u < now → 0 ≤ on * (now - u) ∧ on * (now - u) ≤ 65536 * 17592186044416 := fun q => mul_bound (a := on) (b := now - u) (A := 65536) (B := 17592186044416) ho.1 ho.2 (by omega) (by omega)
    have m1 : f + down < now → 0 ≤ off * (min now (u - up) - (f + down)) ∧ off * (min now (u - up) - (f + down)) ≤ 65536 * 17592186044416 := fun q => mul_bound (a := off) (b := min now (u - up) - (f + down)) (A := 65536) (B := 17592186044416) hO.1 hO.2 (by omega) (by omega)
    have q1 : f + down < now → max 0 (min (u - up) now - (f + down)) = min now (u - up) - (f + down) := fun q => by omega
    have q2 : ¬ f + down < now → max 0 (min (u - up) now - (f + down)) = 0 := fun q => by omega
    have q3 : u < now → max 0 (now - u) = now - u := fun q => by omega
    have q4 : ¬ u < now → max 0 (now - u) = 0 := fun q => by omega
    have bm : -4398046511104 - 256 ≤ min now (u - up) ∧ min now (u - up) ≤ 4398046511104 := by omega
    generalize min now (u - up) = m at *
    obtain ⟨r1, s1⟩ := wr (x := f + down) (by omega)
    obtain ⟨r2, s2⟩ := wr (x := u - up) (by omega)
    obtain ⟨r3, s3⟩ := wr (x := m - (f + down)) (by omega)
    obtain ⟨r4, s4⟩ := wr (x := now - u) (by omega)
    obtain ⟨r5, s5⟩ := wr (x := downE) (by omega)
    obtain ⟨r6, s6⟩ := wr (x := downE + upE) (by omega)
    by_cases d : u < now
    · have c : f + down < now := by omega
      have b : u - up ≤ now := by omega
      have a : f ≤ now := by omega
      have g1 := m1 c
      have g2 := m2 d
      obtain ⟨t1, v1⟩ := wr (x := off * (m - (f + down))) (by omega)
      obtain ⟨t2, v2⟩ := wr (x := on * (now - u)) (by omega)
      obtain ⟨t3, v3⟩ := wr (x := downE + upE + off * (m - (f + down))) (by omega)
      obtain ⟨t4, v4⟩ := wr (x := downE + upE + off * (m - (f + down)) + on * (now - u)) (by omega)
      clear g1 g2
      have hF := HF.out
      have HE : Hid (downE + upE + off * (m - (f + down)) + on * (now - u) = res) := by show _ = _; rw [HR.out, q1 c, q3 d, if_pos a, if_pos b]; omega
      clear HR HF m1 m2 q1 q2 q3 q4 bm hs hr hz hf hv hn ho hO hd hu hde hue
      rcases hF with b0 | ⟨b0, b1⟩
      · go_enter Try.func20, Try.ntmps20
        go_wp2_with fail
        rw [← HW.out]
        obtain ⟨x0, x1, d2, d3⟩ := And.intro X0.c0 (And.intro X0.c1 (And.intro D0.c2 D0.c3))
        go_quiet (fail)
        generalize hwq : World.drewN W0 _ = w2
        have K2 : Kp w w2 := by rw [← hwq]; exact k0.trans (kp_drewN _ _)
        have D2 : B7 w2 w.heap.size on off down up downE upE even := by rw [← hwq]; exact D0.kp (kp_drewN _ _)
        have X2 : B2 w2 (w.heap.size + 1) 25 f u := by rw [← hwq]; exact X0.kp (kp_drewN _ _)
        clear hwq x0 x1 d2 d3 D0 X0 k0 HW
        obtain ⟨x0, x1, d0, d1, d4, d5⟩ := And.intro X2.c0 (And.intro X2.c1 (And.intro D2.c0 (And.intro D2.c1 (And.intro D2.c4 D2.c5))))
        go_wp2_with fail
        go_quiet (first | (go_at_call 25; exact Calls.quiet_of_same (HM.out _)) | fail)
        generalize hwq : World.drewN w2 _ = w3
        have K3 : Kp w w3 := by rw [← hwq]; exact K2.trans (kp_drewN _ _)
        have X3 : B2 w3 (w.heap.size + 1) 25 f u := by rw [← hwq]; exact X2.kp (kp_drewN _ _)
        have D3 : B7 w3 w.heap.size on off down up downE upE even := by rw [← hwq]; exact D2.kp (kp_drewN _ _)
        clear hwq x0 x1 d0 d1 d4 d5 D2 X2 K2
        obtain ⟨x1, d0⟩ := And.intro X3.c1 D3.c0
        go_wp2
        go_ret
        exact ⟨congrArg (fun x => Ending.returned (Value.int .i64 x)) HE.out, K3⟩
      · go_enter Try.func20, Try.ntmps20
        go_wp2_with fail
        rw [← HW.out]
        obtain ⟨x0, x1, d2, d3⟩ := And.intro X0.c0 (And.intro X0.c1 (And.intro D0.c2 D0.c3))
        go_quiet (fail)
        generalize hwq : World.drewN W0 _ = w2
        have K2 : Kp w w2 := by rw [← hwq]; exact k0.trans (kp_drewN _ _)
        have D2 : B7 w2 w.heap.size on off down up downE upE even := by rw [← hwq]; exact D0.kp (kp_drewN _ _)
        have X2 : B2 w2 (w.heap.size + 1) 25 f u := by rw [← hwq]; exact X0.kp (kp_drewN _ _)
        clear hwq x0 x1 d2 d3 D0 X0 k0 HW
        obtain ⟨x0, x1, d0, d1, d4, d5⟩ := And.intro X2.c0 (And.intro X2.c1 (And.intro D2.c0 (And.intro D2.c1 (And.intro D2.c4 D2.c5))))
        go_wp2_with fail
        go_quiet (first | (go_at_call 25; exact Calls.quiet_of_same (HM.out _)) | fail)
        generalize hwq : World.drewN w2 _ = w3
        have K3 : Kp w w3 := by rw [← hwq]; exact K2.trans (kp_drewN _ _)
        have X3 : B2 w3 (w.heap.size + 1) 25 f u := by rw [← hwq]; exact X2.kp (kp_drewN _ _)
        have D3 : B7 w3 w.heap.size on off down up downE upE even := by rw [← hwq]; exact D2.kp (kp_drewN _ _)
        clear hwq x0 x1 d0 d1 d4 d5 D2 X2 K2
        obtain ⟨x1, d0⟩ := And.intro X3.c1 D3.c0
        go_wp2
        go_ret
        exact ⟨congrArg (fun x => Ending.returned (Value.int .i64 x)) HE.out, K3⟩
    · by_cases b : u - up ≤ now
      · have a : f ≤ now := by omega
        by_cases c : f + down < now
        · have g1 := m1 c
          obtain ⟨t1, v1⟩ := wr (x := off * (m - (f + down))) (by omega)
          obtain ⟨t3, v3⟩ := wr (x := downE + upE + off * (m - (f + down))) (by omega)
          clear g1
          have hF := HF.out
          have HE : Hid (downE + upE + off * (m - (f + down)) = res) := by show _ = _; rw [HR.out, q1 c, q4 d, if_pos a, if_pos b]; omega
          clear HR HF m1 m2 q1 q2 q3 q4 bm hs hr hz hf hv hn ho hO hd hu hde hue
          rcases hF with b0 | ⟨b0, b1⟩
          · go_enter Try.func20, Try.ntmps20
            go_wp2_with fail
            rw [← HW.out]
            obtain ⟨x0, x1, d2, d3⟩ := And.intro X0.c0 (And.intro X0.c1 (And.intro D0.c2 D0.c3))
            go_quiet (fail)
            generalize hwq : World.drewN W0 _ = w2
            have K2 : Kp w w2 := by rw [← hwq]; exact k0.trans (kp_drewN _ _)
            have D2 : B7 w2 w.heap.size on off down up downE upE even := by rw [← hwq]; exact D0.kp (kp_drewN _ _)
            have X2 : B2 w2 (w.heap.size + 1) 25 f u := by rw [← hwq]; exact X0.kp (kp_drewN _ _)
            clear hwq x0 x1 d2 d3 D0 X0 k0 HW
            obtain ⟨x0, x1, d0, d1, d4, d5⟩ := And.intro X2.c0 (And.intro X2.c1 (And.intro D2.c0 (And.intro D2.c1 (And.intro D2.c4 D2.c5))))
            go_wp2_with fail
            go_quiet (first | (go_at_call 25; exact Calls.quiet_of_same (HM.out _)) | fail)
            generalize hwq : World.drewN w2 _ = w3
            have K3 : Kp w w3 := by rw [← hwq]; exact K2.trans (kp_drewN _ _)
            have X3 : B2 w3 (w.heap.size + 1) 25 f u := by rw [← hwq]; exact X2.kp (kp_drewN _ _)
            have D3 : B7 w3 w.heap.size on off down up downE upE even := by rw [← hwq]; exact D2.kp (kp_drewN _ _)
            clear hwq x0 x1 d0 d1 d4 d5 D2 X2 K2
            obtain ⟨x1, d0⟩ := And.intro X3.c1 D3.c0
            go_wp2
            go_ret
            exact ⟨congrArg (fun x => Ending.returned (Value.int .i64 x)) HE.out, K3⟩
          · go_enter Try.func20, Try.ntmps20
            go_wp2_with fail
            rw [← HW.out]
            obtain ⟨x0, x1, d2, d3⟩ := And.intro X0.c0 (And.intro X0.c1 (And.intro D0.c2 D0.c3))
            go_quiet (fail)
            generalize hwq : World.drewN W0 _ = w2
            have K2 : Kp w w2 := by rw [← hwq]; exact k0.trans (kp_drewN _ _)
            have D2 : B7 w2 w.heap.size on off down up downE upE even := by rw [← hwq]; exact D0.kp (kp_drewN _ _)
            have X2 : B2 w2 (w.heap.size + 1) 25 f u := by rw [← hwq]; exact X0.kp (kp_drewN _ _)
            clear hwq x0 x1 d2 d3 D0 X0 k0 HW
            obtain ⟨x0, x1, d0, d1, d4, d5⟩ := And.intro X2.c0 (And.intro X2.c1 (And.intro D2.c0 (And.intro D2.c1 (And.intro D2.c4 D2.c5))))
            go_wp2_with fail
            go_quiet (first | (go_at_call 25; exact Calls.quiet_of_same (HM.out _)) | fail)
            generalize hwq : World.drewN w2 _ = w3
            have K3 : Kp w w3 := by rw [← hwq]; exact K2.trans (kp_drewN _ _)
            have X3 : B2 w3 (w.heap.size + 1) 25 f u := by rw [← hwq]; exact X2.kp (kp_drewN _ _)
            have D3 : B7 w3 w.heap.size on off down up downE upE even := by rw [← hwq]; exact D2.kp (kp_drewN _ _)
            clear hwq x0 x1 d0 d1 d4 d5 D2 X2 K2
            obtain ⟨x1, d0⟩ := And.intro X3.c1 D3.c0
            go_wp2
            go_ret
            exact ⟨congrArg (fun x => Ending.returned (Value.int .i64 x)) HE.out, K3⟩
        · skip
          have hF := HF.out
          have HE : Hid (downE + upE = res) := by show _ = _; rw [HR.out, q2 c, q4 d, if_pos a, if_pos b]; omega
          clear HR HF m1 m2 q1 q2 q3 q4 bm hs hr hz hf hv hn ho hO hd hu hde hue
          rcases hF with b0 | ⟨b0, b1⟩
          · go_enter Try.func20, Try.ntmps20
            go_wp2_with fail
            rw [← HW.out]
            obtain ⟨x0, x1, d2, d3⟩ := And.intro X0.c0 (And.intro X0.c1 (And.intro D0.c2 D0.c3))
            go_quiet (fail)
            generalize hwq : World.drewN W0 _ = w2
            have K2 : Kp w w2 := by rw [← hwq]; exact k0.trans (kp_drewN _ _)
            have D2 : B7 w2 w.heap.size on off down up downE upE even := by rw [← hwq]; exact D0.kp (kp_drewN _ _)
            have X2 : B2 w2 (w.heap.size + 1) 25 f u := by rw [← hwq]; exact X0.kp (kp_drewN _ _)
            clear hwq x0 x1 d2 d3 D0 X0 k0 HW
            obtain ⟨x0, x1, d0, d1, d4, d5⟩ := And.intro X2.c0 (And.intro X2.c1 (And.intro D2.c0 (And.intro D2.c1 (And.intro D2.c4 D2.c5))))
            go_wp2
            go_ret
            exact ⟨congrArg (fun x => Ending.returned (Value.int .i64 x)) HE.out, K2⟩
          · go_enter Try.func20, Try.ntmps20
            go_wp2_with fail
            rw [← HW.out]
            obtain ⟨x0, x1, d2, d3⟩ := And.intro X0.c0 (And.intro X0.c1 (And.intro D0.c2 D0.c3))
            go_quiet (fail)
            generalize hwq : World.drewN W0 _ = w2
            have K2 : Kp w w2 := by rw [← hwq]; exact k0.trans (kp_drewN _ _)
            have D2 : B7 w2 w.heap.size on off down up downE upE even := by rw [← hwq]; exact D0.kp (kp_drewN _ _)
            have X2 : B2 w2 (w.heap.size + 1) 25 f u := by rw [← hwq]; exact X0.kp (kp_drewN _ _)
            clear hwq x0 x1 d2 d3 D0 X0 k0 HW
            obtain ⟨x0, x1, d0, d1, d4, d5⟩ := And.intro X2.c0 (And.intro X2.c1 (And.intro D2.c0 (And.intro D2.c1 (And.intro D2.c4 D2.c5))))
            go_wp2
            go_ret
            exact ⟨congrArg (fun x => Ending.returned (Value.int .i64 x)) HE.out, K2⟩
      · by_cases c : f + down < now
        · have a : f ≤ now := by omega
          have g1 := m1 c
          obtain ⟨t1, v1⟩ := wr (x := off * (m - (f + down))) (by omega)
          obtain ⟨t3, v3⟩ := wr (x := downE + off * (m - (f + down))) (by omega)
          clear g1
          have hF := HF.out
          have HE : Hid (downE + off * (m - (f + down)) = res) := by show _ = _; rw [HR.out, q1 c, q4 d, if_pos a, if_neg b]; omega
          clear HR HF m1 m2 q1 q2 q3 q4 bm hs hr hz hf hv hn ho hO hd hu hde hue
          rcases hF with b0 | ⟨b0, b1⟩
          · go_enter Try.func20, Try.ntmps20
            go_wp2_with fail
            rw [← HW.out]
            obtain ⟨x0, x1, d2, d3⟩ := And.intro X0.c0 (And.intro X0.c1 (And.intro D0.c2 D0.c3))
            go_quiet (fail)
            generalize hwq : World.drewN W0 _ = w2
            have K2 : Kp w w2 := by rw [← hwq]; exact k0.trans (kp_drewN _ _)
            have D2 : B7 w2 w.heap.size on off down up downE upE even := by rw [← hwq]; exact D0.kp (kp_drewN _ _)
            have X2 : B2 w2 (w.heap.size + 1) 25 f u := by rw [← hwq]; exact X0.kp (kp_drewN _ _)
            clear hwq x0 x1 d2 d3 D0 X0 k0 HW
            obtain ⟨x0, x1, d0, d1, d4, d5⟩ := And.intro X2.c0 (And.intro X2.c1 (And.intro D2.c0 (And.intro D2.c1 (And.intro D2.c4 D2.c5))))
            go_wp2_with fail
            go_quiet (first | (go_at_call 25; exact Calls.quiet_of_same (HM.out _)) | fail)
            generalize hwq : World.drewN w2 _ = w3
            have K3 : Kp w w3 := by rw [← hwq]; exact K2.trans (kp_drewN _ _)
            have X3 : B2 w3 (w.heap.size + 1) 25 f u := by rw [← hwq]; exact X2.kp (kp_drewN _ _)
            have D3 : B7 w3 w.heap.size on off down up downE upE even := by rw [← hwq]; exact D2.kp (kp_drewN _ _)
            clear hwq x0 x1 d0 d1 d4 d5 D2 X2 K2
            obtain ⟨x1, d0⟩ := And.intro X3.c1 D3.c0
            go_wp2
            go_ret
            exact ⟨congrArg (fun x => Ending.returned (Value.int .i64 x)) HE.out, K3⟩
          · go_enter Try.func20, Try.ntmps20
            go_wp2_with fail
            rw [← HW.out]
            obtain ⟨x0, x1, d2, d3⟩ := And.intro X0.c0 (And.intro X0.c1 (And.intro D0.c2 D0.c3))
            go_quiet (fail)
            generalize hwq : World.drewN W0 _ = w2
            have K2 : Kp w w2 := by rw [← hwq]; exact k0.trans (kp_drewN _ _)
            have D2 : B7 w2 w.heap.size on off down up downE upE even := by rw [← hwq]; exact D0.kp (kp_drewN _ _)
            have X2 : B2 w2 (w.heap.size + 1) 25 f u := by rw [← hwq]; exact X0.kp (kp_drewN _ _)
            clear hwq x0 x1 d2 d3 D0 X0 k0 HW
            obtain ⟨x0, x1, d0, d1, d4, d5⟩ := And.intro X2.c0 (And.intro X2.c1 (And.intro D2.c0 (And.intro D2.c1 (And.intro D2.c4 D2.c5))))
            go_wp2_with fail
            go_quiet (first | (go_at_call 25; exact Calls.quiet_of_same (HM.out _)) | fail)
            generalize hwq : World.drewN w2 _ = w3
            have K3 : Kp w w3 := by rw [← hwq]; exact K2.trans (kp_drewN _ _)
            have X3 : B2 w3 (w.heap.size + 1) 25 f u := by rw [← hwq]; exact X2.kp (kp_drewN _ _)
            have D3 : B7 w3 w.heap.size on off down up downE upE even := by rw [← hwq]; exact D2.kp (kp_drewN _ _)
            clear hwq x0 x1 d0 d1 d4 d5 D2 X2 K2
            obtain ⟨x1, d0⟩ := And.intro X3.c1 D3.c0
            go_wp2
            go_ret
            exact ⟨congrArg (fun x => Ending.returned (Value.int .i64 x)) HE.out, K3⟩
        · by_cases a : f ≤ now
          · skip
            have hF := HF.out
            have HE : Hid (downE = res) := by show _ = _; rw [HR.out, q2 c, q4 d, if_pos a, if_neg b]; omega
            clear HR HF m1 m2 q1 q2 q3 q4 bm hs hr hz hf hv hn ho hO hd hu hde hue
            rcases hF with b0 | ⟨b0, b1⟩
            · go_enter Try.func20, Try.ntmps20
              go_wp2_with fail
              rw [← HW.out]
              obtain ⟨x0, x1, d2, d3⟩ := And.intro X0.c0 (And.intro X0.c1 (And.intro D0.c2 D0.c3))
              go_quiet (fail)
              generalize hwq : World.drewN W0 _ = w2
              have K2 : Kp w w2 := by rw [← hwq]; exact k0.trans (kp_drewN _ _)
              have D2 : B7 w2 w.heap.size on off down up downE upE even := by rw [← hwq]; exact D0.kp (kp_drewN _ _)
              have X2 : B2 w2 (w.heap.size + 1) 25 f u := by rw [← hwq]; exact X0.kp (kp_drewN _ _)
              clear hwq x0 x1 d2 d3 D0 X0 k0 HW
              obtain ⟨x0, x1, d0, d1, d4, d5⟩ := And.intro X2.c0 (And.intro X2.c1 (And.intro D2.c0 (And.intro D2.c1 (And.intro D2.c4 D2.c5))))
              go_wp2
              go_ret
              exact ⟨congrArg (fun x => Ending.returned (Value.int .i64 x)) HE.out, K2⟩
            · go_enter Try.func20, Try.ntmps20
              go_wp2_with fail
              rw [← HW.out]
              obtain ⟨x0, x1, d2, d3⟩ := And.intro X0.c0 (And.intro X0.c1 (And.intro D0.c2 D0.c3))
              go_quiet (fail)
              generalize hwq : World.drewN W0 _ = w2
              have K2 : Kp w w2 := by rw [← hwq]; exact k0.trans (kp_drewN _ _)
              have D2 : B7 w2 w.heap.size on off down up downE upE even := by rw [← hwq]; exact D0.kp (kp_drewN _ _)
              have X2 : B2 w2 (w.heap.size + 1) 25 f u := by rw [← hwq]; exact X0.kp (kp_drewN _ _)
              clear hwq x0 x1 d2 d3 D0 X0 k0 HW
              obtain ⟨x0, x1, d0, d1, d4, d5⟩ := And.intro X2.c0 (And.intro X2.c1 (And.intro D2.c0 (And.intro D2.c1 (And.intro D2.c4 D2.c5))))
              go_wp2
              go_ret
              exact ⟨congrArg (fun x => Ending.returned (Value.int .i64 x)) HE.out, K2⟩
          · skip
            have hF := HF.out
            have HE : Hid (0 = res) := by show _ = _; rw [HR.out, q2 c, q4 d, if_neg a, if_neg b]; omega
            clear HR HF m1 m2 q1 q2 q3 q4 bm hs hr hz hf hv hn ho hO hd hu hde hue
            rcases hF with b0 | ⟨b0, b1⟩
            · go_enter Try.func20, Try.ntmps20
              go_wp2_with fail
              rw [← HW.out]
              obtain ⟨x0, x1, d2, d3⟩ := And.intro X0.c0 (And.intro X0.c1 (And.intro D0.c2 D0.c3))
              go_quiet (fail)
              generalize hwq : World.drewN W0 _ = w2
              have K2 : Kp w w2 := by rw [← hwq]; exact k0.trans (kp_drewN _ _)
              have D2 : B7 w2 w.heap.size on off down up downE upE even := by rw [← hwq]; exact D0.kp (kp_drewN _ _)
              have X2 : B2 w2 (w.heap.size + 1) 25 f u := by rw [← hwq]; exact X0.kp (kp_drewN _ _)
              clear hwq x0 x1 d2 d3 D0 X0 k0 HW
              obtain ⟨x0, x1, d0, d1, d4, d5⟩ := And.intro X2.c0 (And.intro X2.c1 (And.intro D2.c0 (And.intro D2.c1 (And.intro D2.c4 D2.c5))))
              go_wp2
              go_ret
              exact ⟨congrArg (fun x => Ending.returned (Value.int .i64 x)) HE.out, K2⟩
            · go_enter Try.func20, Try.ntmps20
              go_wp2_with fail
              rw [← HW.out]
              obtain ⟨x0, x1, d2, d3⟩ := And.intro X0.c0 (And.intro X0.c1 (And.intro D0.c2 D0.c3))
              go_quiet (fail)
              generalize hwq : World.drewN W0 _ = w2
              have K2 : Kp w w2 := by rw [← hwq]; exact k0.trans (kp_drewN _ _)
              have D2 : B7 w2 w.heap.size on off down up downE upE even := by rw [← hwq]; exact D0.kp (kp_drewN _ _)
              have X2 : B2 w2 (w.heap.size + 1) 25 f u := by rw [← hwq]; exact X0.kp (kp_drewN _ _)
              clear hwq x0 x1 d2 d3 D0 X0 k0 HW
              obtain ⟨x0, x1, d0, d1, d4, d5⟩ := And.intro X2.c0 (And.intro X2.c1 (And.intro D2.c0 (And.intro D2.c1 (And.intro D2.c4 D2.c5))))
              go_wp2
              go_ret
              exact ⟨congrArg (fun x => Ending.returned (Value.int .i64 x)) HE.out, K2⟩

end Go.Proofs.Ytnjakfkafecmlaa.DV
