/- The walk of TraceNone. -/
import Derived.Test.YtbgpojhdkmhcbaaTrcSame
namespace Go.Proofs.Ytbgpojhdkmhcbaa.TC
open Go.ChangeShapes Go.WideShapes Go.ChangeAt Go.RowKit Go.Proofs.Ytbgpojhdkmhcbaa.AR

theorem newend_any (w : World) (tb base : Nat) (v : Value) (h : Tr w tb base v []) :
    Calls Try.prog 13 #[.pointer (some ⟨tb, 0, none⟩)] w fun e w' => e = .returned (.int .i64 0) ∧ Kp w w' := trend_any tb base v [] w h

set_option maxHeartbeats 4000000 in
theorem traceNone_walk (kind frm len arg task cyc : Int) (w : World) :
    Calls Try.prog 7 #[.agg #[.int .i64 kind, .int .i64 frm, .int .i64 len, .int .i64 arg, .int .i64 task, .int .i64 cyc]] w fun e w' => e = .returned (.bool true) ∧ Below w.heap.size w w' := by
  have HA : Hid (∀ W, Calls Try.prog 11 #[.pointer none, .agg #[.int .i64 kind, .int .i64 frm, .int .i64 len, .int .i64 arg, .int .i64 task, .int .i64 cyc]] W fun e w' => e = .returned (.tuple #[]) ∧ Kp W w') := fun W => addnil_any ⟨kind, frm, len, arg, task, cyc⟩ W
  have HB : Hid (∀ o, Kp w (w.alloc o)) := fun o => (Step.refl _ w).alloc o
  go_enter Try.func7, Try.ntmps7
  go_wp2_with (first
    | (go_at_call 11; refine (HA.out _).mono ?_; rintro e w1 ⟨rfl, k1⟩)
    | (go_at_call 10; refine (answers_any _).mono ?_; rintro e w2 ⟨rfl, k2⟩)
    | (go_at_call 15; refine (listnil_any _).mono ?_; rintro e w3 ⟨rfl, rfl⟩)
    | (go_at_call 8; refine (new_any _).mono ?_; rintro e w4 ⟨rfl, t4, k4⟩)
    | (go_at_call 13; refine (newend_any _ _ _ _ t4).mono ?_; rintro e w5 ⟨rfl, k5⟩)
    | (go_at_call 13; refine (endnil_any _).mono ?_; rintro e w3 ⟨rfl, rfl⟩)
    | fail)
  go_ret
  exact ⟨rfl, ((((HB.out _).trans k1).trans k2).trans (k4.trans k5)).below⟩

end Go.Proofs.Ytbgpojhdkmhcbaa.TC
