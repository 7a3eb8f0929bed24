/- Of a heap that is none all answers are 0, or false; Push does nothing. -/
import Derived.Test.YtldinhemgmnppaaAns
namespace Go.Proofs.Ytldinhemgmnppaa.HW
open Go.ChangeShapes Go.WideShapes Go.ChangeAt Go.RowKit Go.Proofs.Ytldinhemgmnppaa.HP Go.Maps Go.Proofs.Ytldinhemgmnppaa.HM

set_option maxHeartbeats 2000000 in
theorem heapNone_walk (id key : Int) (w : World) (_h1 : (Lit.int .i64 id).wf = true) (_h2 : (Lit.int .i64 key).wf = true) :
    Calls Try.prog 7 #[.int .i64 id, .int .i64 key] w fun e w' => e = .returned (.bool true) ∧ Below w.heap.size w w' := by
  go_enter Try.func7, Try.ntmps7
  go_wp2_with (first
    | (go_at_call 11; refine (push_none _ _ _).mono ?_; rintro e w' ⟨rfl, rfl⟩)
    | (go_at_call 15; refine (top_none _).mono ?_; rintro e w' ⟨rfl, rfl⟩)
    | (go_at_call 16; refine (pop_none _).mono ?_; rintro e w' ⟨rfl, rfl⟩)
    | (go_at_call 17; refine (keyof_none _ _).mono ?_; rintro e w' ⟨rfl, rfl⟩)
    | (go_at_call 13; refine (remove_none _ _).mono ?_; rintro e w' ⟨rfl, rfl⟩)
    | (go_at_call 18; refine (len_none _).mono ?_; rintro e w' ⟨rfl, rfl⟩)
    | (go_at_call 19; refine (answers_any _).mono ?_; rintro e w1 ⟨rfl, hs⟩)
    | fail)
  go_ret
  exact ⟨rfl, hs.below (Nat.le_refl _) (fun _ _ q => q)⟩

end Go.Proofs.Ytldinhemgmnppaa.HW
