/- What a device has cost, as the program and the document tell it. -/
import Derived.Test.YtnjakfkafecmlabDevBack
namespace Go.Proofs.Ytnjakfkafecmlab.DV
open Go.ChangeShapes Go.WideShapes Go.ChangeAt Go.RowKit Go.Proofs.Ytnjakfkafecmlab.AR Go.Proofs.Ytnjakfkafecmlab.TB

/-- P7.4 -/
def enI (on off down up downE upE f u now : Int) : Int :=
  if f = 0 ∧ u = 0 then on * now else off * max 0 (min (u - up) now - (f + down)) + on * max 0 (now - u) + (if f ≤ now then downE else 0) + (if u - up ≤ now then upE else 0)

theorem en_never {on off down up downE upE f u now : Int} (h : f = 0 ∧ u = 0) : enI on off down up downE upE f u now = on * now := if_pos h
theorem en_was {on off down up downE upE f u now : Int} (h : ¬ (f = 0 ∧ u = 0)) : enI on off down up downE upE f u now = off * max 0 (min (u - up) now - (f + down)) + on * max 0 (now - u) + (if f ≤ now then downE else 0) + (if u - up ≤ now then upE else 0) := if_neg h

theorem wr {x : Int} (h : -9223372036854775808 ≤ x ∧ x ≤ 9223372036854775807) : wrap64 x = x ∧ IntKind.i64.wrap x = x :=
  ⟨IntWalk.wrap64_in _ (by omega), (IntWalk.i64_left _).trans (IntWalk.wrap64_in _ (by omega))⟩

set_option maxHeartbeats 4000000 in
theorem energy_any (on off down up downE upE even f u now : Int) (w : World) (ho : 0 ≤ on ∧ on ≤ 65536) (hO : 0 ≤ off ∧ off ≤ 65536) (hd : 0 ≤ down ∧ down ≤ 256) (hu : 0 ≤ up ∧ up ≤ 256) (hde : 0 ≤ downE ∧ downE ≤ 65536) (hue : 0 ≤ upE ∧ upE ≤ 65536) (hf : Mo f) (hv : Mo u) (hn : Mo now) :
    Calls Try.prog 9 #[.agg #[.int .i64 on, .int .i64 off, .int .i64 down, .int .i64 up, .int .i64 downE, .int .i64 upE, .int .i64 even], .agg #[.int .i64 f, .int .i64 u], .int .i64 now] w
      fun e w' => e = .returned (.int .i64 (enI on off down up downE upE f u now)) ∧ Kp w w' := by
  obtain ⟨W0, HW⟩ : ∃ W0, Hid (W0 = (w.alloc (.cells #[.int .i64 on, .int .i64 off, .int .i64 down, .int .i64 up, .int .i64 downE, .int .i64 upE, .int .i64 even] 23)).alloc (.cells #[.int .i64 f, .int .i64 u] 28)) := ⟨_, rfl⟩
  obtain ⟨k0, D0, X0⟩ := two_boxes HW.out
  have HN : Hid (∀ W, Calls Try.prog 11 #[.agg #[.int .i64 f, .int .i64 u]] W fun e w' => e = .returned (.bool (nvB f u)) ∧ Kp W w') := fun W => never_any f u W
  unfold Mo at *
  by_cases hz : f = 0 ∧ u = 0
  · have HR : Hid (enI on off down up downE upE f u now = on * now) := en_never hz
    rw [HR.out]; clear HR
    rw [nvB_t.2 hz] at HN
    have b1 : -(65536 * 4398046511104) ≤ on * now ∧ on * now ≤ 65536 * 4398046511104 := by
      by_cases q : 0 ≤ now
      · have := mul_bound (a := on) (b := now) (A := 65536) (B := 4398046511104) ho.1 ho.2 q hn.2; omega
      · have := mul_bound (a := on) (b := -now) (A := 65536) (B := 4398046511104) ho.1 ho.2 (by omega) (by omega)
        rw [Int.mul_neg] at this; omega
    obtain ⟨r1, r2⟩ := wr (x := on * now) (by omega)
    clear b1 hz hf hv hn ho hO hd hu hde hue
    go_enter Try.func9, Try.ntmps9
    go_wp2_with (first
      | (go_at_call 11; rw [← HW.out]; refine (HN.out _).mono ?_; rintro e w1 ⟨rfl, k1⟩; have K1 : Kp w w1 := k0.trans k1; have d0 := (D0.kp k1).c0)
      | fail)
    go_ret
    exact ⟨rfl, K1⟩
  · have HR : Hid (enI on off down up downE upE f u now = off * max 0 (min (u - up) now - (f + down)) + on * max 0 (now - u) + (if f ≤ now then downE else 0) + (if u - up ≤ now then upE else 0)) := en_was hz
    generalize enI on off down up downE upE f u now = res at *
    rw [nvB_f.2 hz] at HN
    have HQ1 : Hid (∀ W, Calls Try.prog 12 #[.int .i64 (f + down), .int .i64 (min (u - up) now)] W fun e w' => e = .returned (.int .i64 (max 0 (min (u - up) now - (f + down)))) ∧ w' = W) := fun W => quanta_any _ _ W (by omega)
    have HQ2 : Hid (∀ W, Calls Try.prog 12 #[.int .i64 u, .int .i64 now] W fun e w' => e = .returned (.int .i64 (max 0 (now - u))) ∧ w' = W) := fun W => quanta_any _ _ W (by omega)
    have m1 := mul_bound (a := off) (b := max 0 (min (u - up) now - (f + down))) (A := 65536) (B := 17592186044416) hO.1 hO.2 (by omega) (by omega)
    have m2 := mul_bound (a := on) (b := max 0 (now - u)) (A := 65536) (B := 17592186044416) ho.1 ho.2 (by omega) (by omega)
    generalize max 0 (min (u - up) now - (f + down)) = q1 at *
    generalize max 0 (now - u) = q2 at *
    obtain ⟨r1, s1⟩ := wr (x := f + down) (by omega)
    obtain ⟨r2, s2⟩ := wr (x := u - up) (by omega)
    obtain ⟨r3, s3⟩ := wr (x := off * q1) (by omega)
    obtain ⟨r4, s4⟩ := wr (x := on * q2) (by omega)
    obtain ⟨r5, s5⟩ := wr (x := off * q1 + on * q2) (by omega)
    obtain ⟨r6, s6⟩ := wr (x := off * q1 + on * q2 + downE) (by omega)
    obtain ⟨r7, s7⟩ := wr (x := off * q1 + on * q2 + upE) (by omega)
    obtain ⟨r8, s8⟩ := wr (x := off * q1 + on * q2 + downE + upE) (by omega)
    clear m1 m2 hf hv hn ho hO hd hu hde hue hz
    go_enter Try.func9, Try.ntmps9
    go_wp2_with (first
      | (go_at_call 11; rw [← HW.out]; refine (HN.out _).mono ?_; rintro e w1 ⟨rfl, k1⟩; have K1 : Kp w w1 := k0.trans k1; have D1 := D0.kp k1; have X1 := X0.kp k1; have d2 := D1.c2; have d3 := D1.c3; have x0 := X1.c0; have x1 := X1.c1)
      | fail)
    go_quiet (fail)
    generalize hwq : World.drewN w1 _ = w2
    have k2 : Kp w1 w2 := by rw [← hwq]; exact kp_drewN _ _
    have K2 : Kp w w2 := K1.trans k2
    have D2 := D1.kp k2
    have X2 := X1.kp k2
    clear hwq d2 d3 x0 x1 D1 X1 k1 k2 D0 X0 k0 HN HW
    have d0 := D2.c0
    have d1 := D2.c1
    have d2 := D2.c2
    have d3 := D2.c3
    have d4 := D2.c4
    have d5 := D2.c5
    have x0 := X2.c0
    have x1 := X2.c1
    go_wp2_with fail
    go_region_held3 (fun w' => w'.cell? ⟨w.heap.size, 0, none⟩ = some (.int .i64 on) ∧ w'.cell? ⟨w.heap.size, 1, none⟩ = some (.int .i64 off) ∧ w'.cell? ⟨w.heap.size + 1, 1, none⟩ = some (.int .i64 u)) (go_keep) (first
      | (go_at_call 12; refine (HQ1.out _).mono ?_; rintro e w3 ⟨rfl, rfl⟩; clear HQ1)
      | (go_at_call 12; refine (HQ2.out _).mono ?_; rintro e w3 ⟨rfl, rfl⟩)
      | fail)
    all_goals
      clear HQ2 D2 X2
      have K3 : Kp w w2.drew := K2.drew
      by_cases a : f ≤ now
      · by_cases b : u - up ≤ now
        · have HE : Hid (off * q1 + on * q2 + downE + upE = res) := by show _ = _; rw [HR.out, if_pos a, if_pos b]
          clear HR
          go_wp2
          go_ret
          exact ⟨congrArg (fun x => Ending.returned (Value.int .i64 x)) HE.out, K3⟩
        · have HE : Hid (off * q1 + on * q2 + downE = res) := by show _ = _; rw [HR.out, if_pos a, if_neg b, Int.add_zero]
          clear HR
          go_wp2
          go_ret
          exact ⟨congrArg (fun x => Ending.returned (Value.int .i64 x)) HE.out, K3⟩
      · by_cases b : u - up ≤ now
        · have HE : Hid (off * q1 + on * q2 + upE = res) := by show _ = _; rw [HR.out, if_neg a, if_pos b, Int.add_zero]
          clear HR
          go_wp2
          go_ret
          exact ⟨congrArg (fun x => Ending.returned (Value.int .i64 x)) HE.out, K3⟩
        · have HE : Hid (off * q1 + on * q2 = res) := by show _ = _; rw [HR.out, if_neg a, if_neg b, Int.add_zero, Int.add_zero]
          clear HR
          go_wp2
          go_ret
          exact ⟨congrArg (fun x => Ending.returned (Value.int .i64 x)) HE.out, K3⟩

end Go.Proofs.Ytnjakfkafecmlab.DV
