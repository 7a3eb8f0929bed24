/- A set that is none: the statement's walk. -/
import Derived.Test.YtphaedkmijdphaaRdyAns
namespace Go.Proofs.Ytphaedkmijdphaa.RD
open Go.ChangeShapes Go.WideShapes Go.ChangeAt Go.RowKit Go.Proofs.Ytphaedkmijdphaa.AR Go.Proofs.Ytphaedkmijdphaa.HP Go.Maps Go.Proofs.Ytphaedkmijdphaa.HM Go.Proofs.Ytphaedkmijdphaa.HW

theorem eqZ (w : World) : (Op.equalIn 10000 27 (.agg #[.int .i64 0, .int .i64 0, .int .i64 0, .int .i64 0, .int .i64 0, .bool false]) (.agg #[.int .i64 0, .int .i64 0, .int .i64 0, .int .i64 0, .int .i64 0, .bool false])).run Try.prog w = .ok true w := eqJ zJ w

theorem get_zero (x : Int) (w : World) : Calls Try.prog 13 #[.pointer none, .int .i64 x] w fun e w' => e = .returned (.tuple #[.agg #[.int .i64 0, .int .i64 0, .int .i64 0, .int .i64 0, .int .i64 0, .bool false], .bool false]) ∧ Kp w w' := get_none x w
theorem first_zero (w : World) : Calls Try.prog 15 #[.pointer none] w fun e w' => e = .returned (.tuple #[.agg #[.int .i64 0, .int .i64 0, .int .i64 0, .int .i64 0, .int .i64 0, .bool false], .bool false]) ∧ Kp w w' := first_nil w
theorem box_zero (w w' : World) (k : Kp (w.alloc (.cells #[.int .i64 0, .int .i64 0, .int .i64 0, .int .i64 0, .int .i64 0, .bool false] 27)) w') : BJ w' w.heap.size zJ := (bj_new w zJ).kp k
theorem zero_cells {w : World} {g : Nat} (h : BJ w g zJ) : w.cell? ⟨g, 0, none⟩ = some (.int .i64 0) ∧ w.cell? ⟨g, 1, none⟩ = some (.int .i64 0) ∧ w.cell? ⟨g, 2, none⟩ = some (.int .i64 0) ∧ w.cell? ⟨g, 3, none⟩ = some (.int .i64 0) ∧ w.cell? ⟨g, 4, none⟩ = some (.int .i64 0) ∧ w.cell? ⟨g, 5, none⟩ = some (.bool false) := h.all

set_option maxHeartbeats 4000000 in
theorem readyNone_go (j : Jb) (w : World) :
    Calls Try.prog 7 #[.agg #[.int .i64 j.t, .int .i64 j.r, .int .i64 j.d, .int .i64 j.l, .int .i64 j.x, .bool j.s]] w fun e w' => e = .returned (.bool true) ∧ Kp w w' := by
  have HE := eqZ
  obtain ⟨W0, HW⟩ : ∃ W0, Hid (W0 = w.alloc (.cells #[.int .i64 j.t, .int .i64 j.r, .int .i64 j.d, .int .i64 j.l, .int .i64 j.x, .bool j.s] 27)) := ⟨_, rfl⟩
  obtain ⟨bj, k0⟩ : BJ W0 w.heap.size j ∧ Kp w W0 := by rw [HW.out]; exact ⟨bj_new w j, (Step.refl _ w).alloc _⟩
  go_enter Try.func7, Try.ntmps7
  go_wp2_with fail
  rw [← HW.out]
  refine (put_none j _).mono ?_
  rintro e w1 ⟨rfl, k1⟩
  have b1 := bj.kp k1
  obtain ⟨p0, p1, p2, p3, p4, p5⟩ := b1.all
  go_wp2_with fail
  refine (get_zero j.t _).mono ?_
  rintro e w2 ⟨rfl, k2⟩
  go_wp2_with fail
  have k2' : Kp w1 (w2.alloc (.cells #[.int .i64 0, .int .i64 0, .int .i64 0, .int .i64 0, .int .i64 0, .bool false] 27)) := Step.alloc k2 _
  refine (first_zero _).mono ?_
  rintro e w3 ⟨rfl, k3⟩
  have b2 := box_zero w2 w3 k3
  go_wp2_with fail
  have k3' : Kp w3 (w3.alloc (.cells #[.int .i64 0, .int .i64 0, .int .i64 0, .int .i64 0, .int .i64 0, .bool false] 27)) := (Step.refl _ _).alloc _
  refine (answers_any _).mono ?_
  rintro e w4 ⟨rfl, k4⟩
  have b3 := (box_zero w3 w4 k4)
  have b2' := b2.kp (Step.trans k3' k4)
  have bj' := b1.kp (Step.trans (Step.trans k2' k3) (Step.trans k3' k4))
  obtain ⟨x0, x1, x2, x3, x4, x5⟩ := zero_cells b2'
  obtain ⟨y0, y1, y2, y3, y4, y5⟩ := zero_cells b3
  clear p0 p1 p2 p3 p4 p5
  obtain ⟨p0, p1, p2, p3, p4, p5⟩ := bj'.all
  have KF : Kp w w4 := Step.trans (Step.trans k0 k1) (Step.trans (Step.trans k2' k3) (Step.trans k3' k4))
  go_wp2_with (first
    | (go_at_call 12; refine (drop_none' _ _).mono ?_; rintro e w5 ⟨rfl, rfl⟩)
    | (go_at_call 20; refine (list_none _).mono ?_; rintro e w5 ⟨rfl, rfl⟩)
    | (go_at_call 17; refine (last_none _).mono ?_; rintro e w5 ⟨rfl, rfl⟩)
    | fail)
  go_ret
  exact ⟨rfl, KF⟩

theorem readyNone_walk (j : Jb) (w : World) (_ : WJ j) :
    Calls Try.prog 7 #[j.v] w fun e w' => e = .returned (.bool true) ∧ Below w.heap.size w w' :=
  (readyNone_go j w).mono fun _ _ ⟨he, k⟩ => ⟨he, Kp.bel k⟩

end Go.Proofs.Ytphaedkmijdphaa.RD
