/- What becomes of any job behind one cycle more. -/
import Derived.Test.YtfkefhilkfnffaaJobAns
namespace Go.Proofs.Ytfkefhilkfnffaa.JB
open Go.ChangeShapes Go.WideShapes Go.ChangeAt Go.RowKit Go.Proofs.Ytfkefhilkfnffaa.AR Go.Proofs.Ytfkefhilkfnffaa.TB Go.Proofs.Ytfkefhilkfnffaa.TK

/-- a job's box, and two numbers -/
theorem job_nums (w : World) (j : Jb) (a b : Int) : ∃ W0, Hid (W0 = (w.alloc (.cells #[.int .i64 j.t, .int .i64 j.r, .int .i64 j.d, .int .i64 j.l, .int .i64 j.x, .bool j.s] 28)).alloc (.cells #[.int .i64 a, .int .i64 b] 3)) ∧ Kp w W0 ∧ BJ W0 w.heap.size j ∧
    ∀ i, i < 2 → W0.cell? ⟨w.heap.size + 1, 0 + i, none⟩ = some (.int .i64 ([a, b].getD i 0)) := by
  refine ⟨_, rfl, ((Kp.refl _).alloc _).alloc _, (bj_new w j).kp ((Kp.refl _).alloc _), ?_⟩
  have h := heap_alloc_at (w.alloc (.cells #[.int .i64 j.t, .int .i64 j.r, .int .i64 j.d, .int .i64 j.l, .int .i64 j.x, .bool j.s] 28)) (.cells #[.int .i64 a, .int .i64 b] 3)
  rw [World.size_alloc] at h
  exact nums_at (zs := [a, b]) h

theorem near2 {a b : Int} (h : nrB [a, b] 2 = true) : (-1073741824 ≤ a ∧ a ≤ 1073741824) ∧ (-1073741824 ≤ b ∧ b ≤ 1073741824) := by
  simp [nrB, inB] at h
  omega

/-- behind the cycle: what was told stands beside the job, which then turns, too -/
theorem step_boxes {w w1 : World} {j : Jb} (k : Kp w w1) (B : BJ w1 w.heap.size j) (l x : Int) :
    ∃ V, Hid (V = ((w1.setCell ⟨w.heap.size, 3, none⟩ (.int .i64 l)).setCell ⟨w.heap.size, 4, none⟩ (.int .i64 x)).alloc (.cells #[.int .i64 j.t, .int .i64 j.r, .int .i64 j.d, .int .i64 l, .int .i64 x, .bool j.s] 28)) ∧ Kp w V ∧ BJ V w.heap.size ⟨j.t, j.r, j.d, l, x, j.s⟩ ∧ BJ V w1.heap.size ⟨j.t, j.r, j.d, l, x, j.s⟩ := by
  refine ⟨_, rfl, ((k.setCell (p := ⟨w.heap.size, 3, none⟩) (Nat.le_refl _) _).setCell (p := ⟨w.heap.size, 4, none⟩) (Nat.le_refl _) _).alloc _, ((B.setLeft l).setReal x).kp ((Kp.refl _).alloc _), ?_⟩
  have q := bj_new ((w1.setCell ⟨w.heap.size, 3, none⟩ (.int .i64 l)).setCell ⟨w.heap.size, 4, none⟩ (.int .i64 x)) ⟨j.t, j.r, j.d, l, x, j.s⟩
  simp only [World.size_setCell] at q
  exact q

set_option maxHeartbeats 4000000 in
theorem jobStep_go (j : Jb) (w : World) :
    Calls Try.prog 4 #[j.v] w fun e w' => e = .returned (.bool true) ∧ Below w.heap.size w w' := by
  have HE : Hid (∀ w', Kp w w' → Below w.heap.size w w') := fun w' q => q
  obtain ⟨W0, HW, K0, J0, hc⟩ := job_nums w j j.l j.x
  have HN : Hid (Calls Try.prog 8 #[.slice (some ⟨w.heap.size + 1, 0, none⟩) 2 2] W0 fun e w' => e = .returned (.bool (nrB [j.l, j.x] 2)) ∧ W0 = w') := near_any _ _ _ _ _ W0 hc (by omega)
  have HG : Hid (nrB [j.l, j.x] 2 = true → (-1073741824 ≤ j.l ∧ j.l ≤ 1073741824) ∧ (-1073741824 ≤ j.x ∧ j.x ≤ 1073741824)) := near2
  have HJ : Hid (∀ W, Kp W0 W → BJ W w.heap.size j) := fun W k => J0.kp k
  have HK : Hid (Kp w W0) := K0
  generalize nrB [j.l, j.x] 2 = gd at *
  obtain ⟨j0, j1, j2, j3, j4, j5⟩ := J0.all
  clear J0 K0 hc
  cases gd with
  | false =>
    clear HG
    unfold Jb.v
    go_enter Try.func4, Try.ntmps4
    go_wp2_with fail
    rw [← HW.out]
    refine HN.out.mono ?_
    rintro e w1 ⟨rfl, rfl⟩
    go_wp2_with fail
    refine (janswers_any _).mono ?_
    rintro e w2 ⟨rfl, k2⟩
    go_wp2
    go_ret
    exact ⟨rfl, HE.out _ (HK.out.trans k2)⟩
  | true =>
    obtain ⟨⟨l0, l1⟩, ⟨u0, u1⟩⟩ := HG.out rfl
    have HS : Hid (∀ W, Calls Try.prog 11 #[.agg #[.int .i64 j.t, .int .i64 j.r, .int .i64 j.d, .int .i64 j.l, .int .i64 j.x, .bool j.s]] W fun e w' => e = .returned (.tuple #[.agg #[.int .i64 j.t, .int .i64 j.r, .int .i64 j.d, .int .i64 (j.l - 1), .int .i64 (j.x - 1), .bool j.s], .int .i64 (if j.x ≤ 1 then 2 else if j.l ≤ 1 then 3 else 0)]) ∧ Kp W w') := fun W => by
      have h := step_any j W
      have e : enI ⟨j.t, j.r, j.d, j.l - 1, j.x - 1, j.s⟩ = if j.x ≤ 1 then 2 else if j.l ≤ 1 then 3 else 0 := by
        unfold enI
        by_cases a : j.x ≤ 1
        · rw [if_pos a, if_pos (by show j.x - 1 ≤ 0; omega)]
        · rw [if_neg a, if_neg (by show ¬ j.x - 1 ≤ 0; omega)]
          by_cases b : j.l ≤ 1
          · rw [if_pos b, if_pos (by show j.l - 1 ≤ 0; omega)]
          · rw [if_neg b, if_neg (by show ¬ j.l - 1 ≤ 0; omega)]
      rw [stJ_in (by omega) (by omega), e] at h
      exact h
    have EQ : ∀ W, (Op.equalIn 10000 28 (.agg #[.int .i64 j.t, .int .i64 j.r, .int .i64 j.d, .int .i64 (j.l - 1), .int .i64 (j.x - 1), .bool j.s]) (.agg #[.int .i64 j.t, .int .i64 j.r, .int .i64 j.d, .int .i64 (j.l - 1), .int .i64 (j.x - 1), .bool j.s])).run Try.prog W = .ok true W := fun W => eqJ ⟨j.t, j.r, j.d, j.l - 1, j.x - 1, j.s⟩ W
    obtain ⟨how, hh⟩ : ∃ how : Int, (if j.x ≤ 1 then 2 else if j.l ≤ 1 then 3 else 0) = how := ⟨_, rfl⟩
    rw [hh] at HS
    clear HG
    unfold Jb.v
    by_cases a : j.x ≤ 1 <;> by_cases b : j.l ≤ 1
    all_goals
      first | rw [if_pos a] at hh | rw [if_neg a, if_pos b] at hh | rw [if_neg a, if_neg b] at hh
      subst hh
      go_enter Try.func4, Try.ntmps4
      go_wp2_with fail
      rw [← HW.out]
      clear HW
      refine HN.out.mono ?_
      rintro e w1 ⟨rfl, rfl⟩
      go_wp2_with fail
      refine (HS.out _).mono ?_
      rintro e w1 ⟨rfl, k1⟩
      obtain ⟨V, HV, KV, JV, QV⟩ := step_boxes (HK.out.trans k1) (HJ.out _ k1) (j.l - 1) (j.x - 1)
      have HJV : Hid (∀ W, Kp V W → BJ W w.heap.size ⟨j.t, j.r, j.d, j.l - 1, j.x - 1, j.s⟩ ∧ BJ W w1.heap.size ⟨j.t, j.r, j.d, j.l - 1, j.x - 1, j.s⟩) := fun W k => ⟨JV.kp k, QV.kp k⟩
      have HKV : Hid (Kp w V) := KV
      have lt1 := (HJ.out _ k1).lt
      have f3 := (HJ.out _ k1).fr 3
      have f4 := (HJ.out _ k1).fr 4
      obtain ⟨i0, i1, i2, i3, i4, i5⟩ := (HJ.out _ k1).all
      clear KV JV QV j0 j1 j2 j3 j4 j5
      go_wp2_with fail
      rw [← HV.out]
      clear HV i0 i1 i2 i3 i4 i5 f3 f4
      refine (janswers_any _).mono ?_
      rintro e w2 ⟨rfl, k2⟩
      obtain ⟨i0, i1, i2, i3, i4, i5⟩ := (HJV.out _ k2).1.all
      obtain ⟨y0, y1, y2, y3, y4, y5⟩ := (HJV.out _ k2).2.all
      go_wp2
      go_ret
      exact ⟨rfl, HE.out _ (HKV.out.trans k2)⟩

theorem jobStep_walk (j : Jb) (w : World) :
    Calls Try.prog 4 #[j.v] w fun e w' => e = .returned (.bool true) ∧ Below w.heap.size w w' := jobStep_go j w

end Go.Proofs.Ytfkefhilkfnffaa.JB
