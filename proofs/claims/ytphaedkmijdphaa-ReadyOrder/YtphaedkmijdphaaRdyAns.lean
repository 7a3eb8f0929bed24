/- The statements' own test that a program does something; a set that is none. -/
import Derived.Test.YtphaedkmijdphaaRdyList
namespace Go.Proofs.Ytphaedkmijdphaa.RD
open Go.ChangeShapes Go.WideShapes Go.ChangeAt Go.RowKit Go.Proofs.Ytphaedkmijdphaa.AR Go.Proofs.Ytphaedkmijdphaa.HP Go.Maps Go.Proofs.Ytphaedkmijdphaa.HM Go.Proofs.Ytphaedkmijdphaa.HW

def j4 : Jb := ⟨4, 0, 9, 0, 0, false⟩
def j2 : Jb := ⟨2, 0, 9, 0, 0, false⟩
theorem ans_one : putL [] j4 = [j4] := rfl
theorem ans_two : putL [j4] j2 = [j2, j4] := by kernel_rfl
theorem w4' : WJ j4 := ⟨⟨by decide, by decide⟩, ⟨by decide, by decide⟩⟩
theorem w2' : WJ j2 := ⟨⟨by decide, by decide⟩, ⟨by decide, by decide⟩⟩

theorem ans_put4 (sb : Nat) (A : Nat → Prop) (w : World) (h : SRep w sb A []) :
    Calls Try.prog 9 #[.pointer (some ⟨sb, 0, none⟩), .agg #[.int .i64 4, .int .i64 0, .int .i64 9, .int .i64 0, .int .i64 0, .bool false]] w fun e w' => e = .returned (.tuple #[]) ∧ SWent w sb A [j4] w' :=
  put_any sb A [] j4 w h w4' (by decide)
theorem ans_put2 (sb : Nat) (A : Nat → Prop) (w : World) (h : SRep w sb A [j4]) :
    Calls Try.prog 9 #[.pointer (some ⟨sb, 0, none⟩), .agg #[.int .i64 2, .int .i64 0, .int .i64 9, .int .i64 0, .int .i64 0, .bool false]] w fun e w' => e = .returned (.tuple #[]) ∧ SWent w sb A [j2, j4] w' := by
  have := put_any sb A [j4] j2 w h w2' (by decide)
  rw [ans_two] at this
  exact this
theorem ans_first (sb : Nat) (A : Nat → Prop) (w : World) (h : SRep w sb A [j2, j4]) :
    Calls Try.prog 15 #[.pointer (some ⟨sb, 0, none⟩)] w fun e w' => e = .returned (.tuple #[.agg #[.int .i64 2, .int .i64 0, .int .i64 9, .int .i64 0, .int .i64 0, .bool false], .bool true]) ∧ Kp w w' :=
  first_any sb A [j2, j4] w h j2 rfl
theorem ans_last (sb : Nat) (A : Nat → Prop) (w : World) (h : SRep w sb A [j2, j4]) :
    Calls Try.prog 17 #[.pointer (some ⟨sb, 0, none⟩)] w fun e w' => e = .returned (.int .i64 9) ∧ Kp w w' :=
  last_any sb A [j2, j4] w h (by decide)
theorem ans_list (sb : Nat) (A : Nat → Prop) (w : World) (h : SRep w sb A [j2, j4]) :
    Calls Try.prog 20 #[.pointer (some ⟨sb, 0, none⟩)] w fun e w' => ∃ a c, e = .returned (.slice a 2 c) ∧ Kp w w' := by
  refine (list_any sb A [j2, j4] w h (by decide)).mono ?_
  rintro e w' ⟨v, rfl, l, k⟩
  obtain ⟨g, cap, rfl, _⟩ := l.pos (by simp)
  exact ⟨_, _, rfl, k⟩
theorem ans_drop (sb : Nat) (A : Nat → Prop) (w : World) (h : SRep w sb A [j2, j4]) :
    Calls Try.prog 12 #[.pointer (some ⟨sb, 0, none⟩), .int .i64 4] w fun e w' => e = .returned (.bool true) ∧ SWent w sb A [j2] w' :=
  drop_any sb A [j2, j4] 4 w h ⟨by decide, by decide⟩

/-- new blocks alone have turned -/
theorem kp_of_moved {w0 w1 w2 : World} {A' : Nat → Prop} (k : Kp w0 w1) (m : Moved (fun k => k = w0.heap.size) w1 A' w2) : Kp w0 w2 :=
  Step.trans_new k m.stp (fun i hi q => by omega)

set_option maxHeartbeats 4000000 in
theorem answers_any (w : World) :
    Calls Try.prog 21 #[] w fun e w' => e = .returned (.bool true) ∧ Kp w w' := by
  go_enter Try.func21, Try.ntmps21
  go_wp2_with fail
  refine (new_set _).mono ?_
  rintro e w0 ⟨rfl, r0, s0⟩
  go_wp2_with fail
  refine (ans_put4 w.heap.size _ _ r0).mono ?_
  rintro e w1 ⟨rfl, A1, r1, v1⟩
  go_wp2_with fail
  refine (ans_put2 w.heap.size A1 _ r1).mono ?_
  rintro e w2 ⟨rfl, A2, r2, v2⟩
  go_wp2_with fail
  refine (ans_first w.heap.size A2 _ r2).mono ?_
  rintro e w3 ⟨rfl, k3⟩
  have r3 := r2.kp (Step.alloc k3 (.cells #[.int .i64 2, .int .i64 0, .int .i64 9, .int .i64 0, .int .i64 0, .bool false] 27))
  have k3' : Kp w2 (w3.alloc (.cells #[.int .i64 2, .int .i64 0, .int .i64 9, .int .i64 0, .int .i64 0, .bool false] 27)) := Step.alloc k3 _
  go_wp2_with (first
    | (go_at_call 17; refine (ans_last w.heap.size A2 _ r3).mono ?_; rintro e w4 ⟨rfl, k4⟩; have r4 := r3.kp k4)
    | (go_at_call 20; refine (ans_list w.heap.size A2 _ r4).mono ?_; rintro e w5 ⟨a, c, rfl, k5⟩; have r5 := r4.kp k5)
    | (go_at_call 12; refine (ans_drop w.heap.size A2 _ r5).mono ?_; rintro e w6 ⟨rfl, A6, r6, v6⟩)
    | fail)
  go_ret
  have h4 : Moved (fun k => k = w.heap.size) w0 A6 w6 := ((v1.trans v2).trans (Moved.kp (Step.trans (Step.trans k3' k4) k5))).trans v6
  exact ⟨rfl, kp_of_moved s0 h4⟩

end Go.Proofs.Ytphaedkmijdphaa.RD
