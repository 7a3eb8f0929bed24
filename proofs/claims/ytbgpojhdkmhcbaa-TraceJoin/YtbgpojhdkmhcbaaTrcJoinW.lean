/- The walk of TraceJoin. -/
import Derived.Test.YtbgpojhdkmhcbaaTrcSame
namespace Go.Proofs.Ytbgpojhdkmhcbaa.TC
open Go.ChangeShapes Go.WideShapes Go.ChangeAt Go.RowKit Go.Proofs.Ytbgpojhdkmhcbaa.AR

/-- a list of one, just made -/
theorem ls_one {w w' : World} {x : I6} (k : Kp (w.alloc (.cells #[.int .i64 x.k, .int .i64 x.f, .int .i64 x.l, .int .i64 x.a, .int .i64 x.t, .int .i64 x.c] 27)) w') : Ls w' w.heap.size (.slice (some ⟨w.heap.size, 0, none⟩) 1 1) [x] := by
  refine Ls.kp ⟨?_, by simp⟩ k
  exact World.ownsRow_lit (base := w.heap.size) w _ 1 (Nat.le_refl _) (by unfold maxLen; omega) rfl

theorem two_boxes {w W : World} {x y : I6} (e : W = (w.alloc (.cells #[.int .i64 x.k, .int .i64 x.f, .int .i64 x.l, .int .i64 x.a, .int .i64 x.t, .int .i64 x.c] 27)).alloc (.cells #[.int .i64 y.k, .int .i64 y.f, .int .i64 y.l, .int .i64 y.a, .int .i64 y.t, .int .i64 y.c] 27)) :
    Kp w W ∧ B6 W w.heap.size x ∧ B6 W (w.heap.size + 1) y := by
  subst e
  exact ⟨((Step.refl _ w).alloc _).alloc _, b6_new ((Step.refl _ _).alloc _), ⟨alloc2_at w _ _⟩⟩

theorem ls_one1 {w : World} {x : I6} (o : Obj) : Ls ((w.alloc o).alloc (.cells #[.int .i64 x.k, .int .i64 x.f, .int .i64 x.l, .int .i64 x.a, .int .i64 x.t, .int .i64 x.c] 27)) (w.heap.size + 1) (.slice (some ⟨w.heap.size + 1, 0, none⟩) 1 1) [x] := by
  have q := ls_one (w := w.alloc o) (x := x) (Step.refl _ _)
  rw [World.size_alloc] at q
  exact q

/-- behind the document's Add: what lies there -/
theorem join_put {W0 w3 w4 : World} {x z : I6} {v' : Value} {M : List I6} (k3 : Kp W0 w3)
    (p : Put ((w3.alloc (.cells #[.int .i64 z.k, .int .i64 z.f, .int .i64 z.l, .int .i64 z.a, .int .i64 z.t, .int .i64 z.c] 27)).alloc (.cells #[.int .i64 x.k, .int .i64 x.f, .int .i64 x.l, .int .i64 x.a, .int .i64 x.t, .int .i64 x.c] 27)) (w3.heap.size + 1) (.slice (some ⟨w3.heap.size + 1, 0, none⟩) 1 1) M v' w4) :
    Kp W0 w4 ∧ B6 w4 w3.heap.size z ∧ Ls w4 (w3.heap.size + 1) v' M := by
  obtain ⟨l, s, _⟩ := p
  have q : ∀ k, (Value.slice (some ⟨w3.heap.size + 1, 0, none⟩) 1 1).ownBlock = some k → k = w3.heap.size + 1 := fun k e => by simp only [Value.ownBlock, Option.some.injEq] at e; exact e.symm
  refine ⟨Step.trans_new ((k3.alloc _).alloc _) s (fun i hi e => by have := q i e; have := k3.size; omega), ?_, l⟩
  have b : B6 ((w3.alloc (.cells #[.int .i64 z.k, .int .i64 z.f, .int .i64 z.l, .int .i64 z.a, .int .i64 z.t, .int .i64 z.c] 27)).alloc (.cells #[.int .i64 x.k, .int .i64 x.f, .int .i64 x.l, .int .i64 x.a, .int .i64 x.t, .int .i64 x.c] 27)) w3.heap.size z := b6_new ((Step.refl _ _).alloc _)
  exact b.kept s (fun e => by have := q _ e; omega)

set_option maxHeartbeats 4000000 in
theorem traceJoin_walk (k0 f0 l0 a0 t0 c0 k1 f1 l1 a1 t1 c1 : Int) (w : World) :
    Calls Try.prog 4 #[.agg #[.int .i64 k0, .int .i64 f0, .int .i64 l0, .int .i64 a0, .int .i64 t0, .int .i64 c0], .agg #[.int .i64 k1, .int .i64 f1, .int .i64 l1, .int .i64 a1, .int .i64 t1, .int .i64 c1]] w fun e w' => e = .returned (.bool true) ∧ Below w.heap.size w w' := by
  obtain ⟨x, HX⟩ : ∃ x : I6, x = ⟨k0, f0, l0, a0, t0, c0⟩ := ⟨_, rfl⟩
  obtain ⟨y, HY⟩ : ∃ y : I6, y = ⟨k1, f1, l1, a1, t1, c1⟩ := ⟨_, rfl⟩
  have E : Hid (∀ W, Calls Try.prog 4 #[x.v, y.v] W fun e w' => e = .returned (.bool true) ∧ Kp W w') := by
    clear HX HY
    intro w
    have HS0 : Hid (∀ W, Calls Try.prog 9 #[.agg #[.int .i64 x.k, .int .i64 x.f, .int .i64 x.l, .int .i64 x.a, .int .i64 x.t, .int .i64 x.c]] W fun e w' => e = .returned (.bool (smallB x)) ∧ Kp W w') := fun W => small_any x W
    have HS1 : Hid (∀ W, Calls Try.prog 9 #[.agg #[.int .i64 y.k, .int .i64 y.f, .int .i64 y.l, .int .i64 y.a, .int .i64 y.t, .int .i64 y.c]] W fun e w' => e = .returned (.bool (smallB y)) ∧ Kp W w') := fun W => small_any y W
    obtain ⟨W0, HW⟩ : ∃ W0, Hid (W0 = (w.alloc (.cells #[.int .i64 x.k, .int .i64 x.f, .int .i64 x.l, .int .i64 x.a, .int .i64 x.t, .int .i64 x.c] 27)).alloc (.cells #[.int .i64 y.k, .int .i64 y.f, .int .i64 y.l, .int .i64 y.a, .int .i64 y.t, .int .i64 y.c] 27)) := ⟨_, rfl⟩
    obtain ⟨kp0, bx, yb⟩ := two_boxes HW.out
    obtain ⟨s1, r1⟩ : ∃ s, smallB x = s := ⟨_, rfl⟩
    obtain ⟨s2, r2⟩ : ∃ s, smallB y = s := ⟨_, rfl⟩
    rw [r1] at HS0
    rw [r2] at HS1
    cases s1
    · unfold I6.v
      go_enter Try.func4, Try.ntmps4
      go_wp2_with (first
        | (go_at_call 9; rw [← HW.out]; refine (HS0.out _).mono ?_; rintro e w1 ⟨rfl, q1⟩)
        | (go_at_call 10; refine (answers_any _).mono ?_; rintro e w2 ⟨rfl, q2⟩)
        | fail)
      go_ret
      exact ⟨rfl, (kp0.trans q1).trans q2⟩
    · cases s2
      · unfold I6.v
        go_enter Try.func4, Try.ntmps4
        go_wp2_with (first
          | (go_at_call 9; rw [← HW.out]; refine (HS0.out _).mono ?_; rintro e w1 ⟨rfl, q1⟩; obtain ⟨d0, d1, d2, d3, d4, d5⟩ := (yb.kp q1).cl; clear HS0)
          | (go_at_call 9; refine (HS1.out _).mono ?_; rintro e w2 ⟨rfl, q2⟩)
          | (go_at_call 10; refine (answers_any _).mono ?_; rintro e w3 ⟨rfl, q3⟩)
          | fail)
        go_ret
        exact ⟨rfl, ((kp0.trans q1).trans q2).trans q3⟩
      · have HJ : Hid (∀ W, Calls Try.prog 16 #[.agg #[.int .i64 x.k, .int .i64 x.f, .int .i64 x.l, .int .i64 x.a, .int .i64 x.t, .int .i64 x.c], .agg #[.int .i64 y.k, .int .i64 y.f, .int .i64 y.l, .int .i64 y.a, .int .i64 y.t, .int .i64 y.c]] W fun e w' => e = .returned (.tuple #[(joined x y).v, .bool (joB x y)]) ∧ Kp W w') := fun W => join_any x y W
        obtain ⟨z, HZ⟩ : ∃ z, Hid (z = joined x y) := ⟨_, rfl⟩
        rw [← HZ.out] at HJ
        unfold I6.v at HJ
        have HP : Hid (∀ W base v, Ls W base v [x] → base ≤ W.heap.size → Calls Try.prog 12 #[v, .agg #[.int .i64 y.k, .int .i64 y.f, .int .i64 y.l, .int .i64 y.a, .int .i64 y.t, .int .i64 y.c]] W fun e w' => ∃ v', e = .returned v' ∧ Put W base v (addL [x] y) v' w') := fun W base v h hb => put_any base v [x] y W h (by simp) hb
        obtain ⟨j, hj⟩ : ∃ j, joB x y = j := ⟨_, rfl⟩
        rw [hj] at HJ
        cases j
        · have ez : z = zI := by rw [HZ.out]; unfold joined; rw [hj]; rfl
          have el : addL [x] y = [x, y] := addL_more (L := [x]) hj
          rw [el] at HP
          subst ez
          clear HZ
          unfold I6.v
          go_enter Try.func4, Try.ntmps4
          go_wp2_with (first
            | (go_at_call 9; rw [← HW.out]; refine (HS0.out _).mono ?_; rintro e w1 ⟨rfl, q1⟩; obtain ⟨d0, d1, d2, d3, d4, d5⟩ := (yb.kp q1).cl; clear HS0)
            | (go_at_call 9; refine (HS1.out _).mono ?_; rintro e w2 ⟨rfl, q2⟩; have Q2 : Kp W0 w2 := q1.trans q2; clear q1 q2 d0 d1 d2 d3 d4 d5; obtain ⟨d0, d1, d2, d3, d4, d5⟩ := (yb.kp Q2).cl; obtain ⟨e0, e1, e2, e3, e4, e5⟩ := (bx.kp Q2).cl)
            | (go_at_call 16; refine (HJ.out _).mono ?_; rintro e w3 ⟨rfl, q3⟩; have Q3 : Kp W0 w3 := Q2.trans q3; clear q3 d0 d1 d2 d3 d4 d5 e0 e1 e2 e3 e4 e5; obtain ⟨d0, d1, d2, d3, d4, d5⟩ := (yb.kp Q3).cl; obtain ⟨e0, e1, e2, e3, e4, e5⟩ := (bx.kp Q3).cl; have lx := (bx.kp Q3).lt; have ly := (yb.kp Q3).lt)
            | (go_at_call 12; refine (HP.out _ (w3.heap.size + 1) _ (ls_one1 _) (by simp)).mono ?_; rintro e w4 ⟨v4, rfl, p4⟩; obtain ⟨Q4, z4, l4⟩ := join_put (z := zI) Q3 p4; obtain ⟨g, cap, rfl, _, _, _, hc⟩ := l4.pos (by simp); clear p4; obtain ⟨o0, o1, o2, o3, o4, o5⟩ := z4.cl)
            | (go_at_call 10; refine (answers_any _).mono ?_; rintro e w5 ⟨rfl, q5⟩; obtain ⟨h0, h1, h2, h3, h4, h5⟩ := (z4.kp q5).cl; have EQ := eq6 zI)
            | fail)
          go_ret
          exact ⟨rfl, (kp0.trans Q4).trans q5⟩
        · have ez : joined x y = jn x y := by unfold joined; rw [hj]; rfl
          have el : addL [x] y = [z] := by rw [HZ.out, ez]; exact addL_join (L := [x]) (by simp) hj
          rw [el] at HP
          clear HZ ez el
          unfold I6.v
          go_enter Try.func4, Try.ntmps4
          go_wp2_with (first
            | (go_at_call 9; rw [← HW.out]; refine (HS0.out _).mono ?_; rintro e w1 ⟨rfl, q1⟩; obtain ⟨d0, d1, d2, d3, d4, d5⟩ := (yb.kp q1).cl; clear HS0)
            | (go_at_call 9; refine (HS1.out _).mono ?_; rintro e w2 ⟨rfl, q2⟩; have Q2 : Kp W0 w2 := q1.trans q2; clear q1 q2 d0 d1 d2 d3 d4 d5; obtain ⟨d0, d1, d2, d3, d4, d5⟩ := (yb.kp Q2).cl; obtain ⟨e0, e1, e2, e3, e4, e5⟩ := (bx.kp Q2).cl)
            | (go_at_call 16; refine (HJ.out _).mono ?_; rintro e w3 ⟨rfl, q3⟩; have Q3 : Kp W0 w3 := Q2.trans q3; clear q3 d0 d1 d2 d3 d4 d5 e0 e1 e2 e3 e4 e5; obtain ⟨d0, d1, d2, d3, d4, d5⟩ := (yb.kp Q3).cl; obtain ⟨e0, e1, e2, e3, e4, e5⟩ := (bx.kp Q3).cl; have lx := (bx.kp Q3).lt; have ly := (yb.kp Q3).lt)
            | (go_at_call 12; refine (HP.out _ (w3.heap.size + 1) _ (ls_one1 _) (by simp)).mono ?_; rintro e w4 ⟨v4, rfl, p4⟩; obtain ⟨Q4, z4, l4⟩ := join_put (z := z) Q3 p4; obtain ⟨g, cap, rfl, _, _, _, hc⟩ := l4.pos (by simp); clear p4; obtain ⟨o0, o1, o2, o3, o4, o5⟩ := z4.cl)
            | fail)
          have u4 := hc 0 (by simp)
          have e4 : at6 [z] 0 = z := rfl
          rw [e4] at u4
          have HU : Hid (∀ W', Kp w4 W' → C6 W' g (0 * 6) z) := fun W' k => u4.kept k (fun q => q)
          clear hc e4
          obtain ⟨m0, m1, m2, m3, m4, m5, _⟩ := u4
          simp only [Nat.zero_mul, Nat.zero_add] at m0 m1 m2 m3 m4 m5
          have EQ := eq6 z
          unfold I6.v at EQ
          have HB : Hid (∀ W, Calls Try.prog 10 #[] W fun e w' => e = .returned (.bool true) ∧ Kp W w') := answers_any
          go_region_held3 (fun w' => w'.cell? ⟨w3.heap.size, 0, none⟩ = some (.int .i64 z.k) ∧ w'.cell? ⟨w3.heap.size, 1, none⟩ = some (.int .i64 z.f) ∧ w'.cell? ⟨w3.heap.size, 2, none⟩ = some (.int .i64 z.l) ∧ w'.cell? ⟨w3.heap.size, 3, none⟩ = some (.int .i64 z.a) ∧ w'.cell? ⟨w3.heap.size, 4, none⟩ = some (.int .i64 z.t) ∧ w'.cell? ⟨w3.heap.size, 5, none⟩ = some (.int .i64 z.c) ∧
              w'.cell? ⟨g, 0, none⟩ = some (.int .i64 z.k) ∧ w'.cell? ⟨g, 1, none⟩ = some (.int .i64 z.f) ∧ w'.cell? ⟨g, 2, none⟩ = some (.int .i64 z.l) ∧ w'.cell? ⟨g, 3, none⟩ = some (.int .i64 z.a) ∧ w'.cell? ⟨g, 4, none⟩ = some (.int .i64 z.t) ∧ w'.cell? ⟨g, 5, none⟩ = some (.int .i64 z.c)) (go_keep) (first
            | (go_at_call 10; refine (HB.out _).mono ?_; rintro e w5 ⟨rfl, q5⟩; have Q5 : Kp w4 w5 := ⟨q5.os, q5.tape, q5.output, q5.size, q5.block⟩; clear q5; obtain ⟨h0, h1, h2, h3, h4, h5⟩ := (z4.kp Q5).cl; obtain ⟨n0, n1, n2, n3, n4, n5, _⟩ := HU.out _ Q5; simp only [Nat.zero_mul, Nat.zero_add] at n0 n1 n2 n3 n4 n5)
            | fail)
          all_goals
            go_wp2
            go_ret
            exact ⟨rfl, (kp0.trans Q4).trans Q5⟩
  subst HX
  subst HY
  exact (E.out w).mono (fun e w' q => ⟨q.1, q.2.below⟩)

end Go.Proofs.Ytbgpojhdkmhcbaa.TC
