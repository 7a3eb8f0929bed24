/- What the document's own check answers. -/
import Derived.Test.YtbhgjaaaffjjeaaChk
import Derived.Deep.QuietTactic
import Derived.BigQuiet
namespace Go.Proofs.Ytbhgjaaaffjjeaa.TB
open Go.ChangeShapes Go.WideShapes Go.ChangeAt Go.RowKit Go.Proofs.Ytbhgjaaaffjjeaa.AR

/-- what is asked ahead of the loops -/
def Head (lL lS lD : Nat) (idle crit sw swe sems hor : Int) : Prop := (1 ≤ lL ∧ lL ≤ 4) ∧ Num lL idle crit sw swe sems hor ∧ lS ≤ 3 ∧ lD ≤ 3

theorem may_head {lL : Nat} {rL : List (List Int)} {lS : Nat} {rS : List (List Int)} {lD : Nat} {rD : List (List Int)} {idle crit sw swe sems hor : Int}
    (h : ¬ Head lL lS lD idle crit sw swe sems hor) : mayB lL rL lS rS lD rD idle crit sw swe sems hor = false := by
  cases q : mayB lL rL lS rS lD rD idle crit sw swe sems hor with
  | false => rfl
  | true => obtain ⟨h1, h2, h3, h4, h5⟩ := mayB_t.1 q; exact absurd ⟨h2.1, h1, h4.1, h5.1⟩ h

set_option maxRecDepth 100000 in
set_option maxHeartbeats 8000000 in
theorem reftable_head (aL : Option Addr) (lL cL : Nat) (aS : Option Addr) (lS cS : Nat) (aD : Option Addr) (lD cD : Nat) (idle crit sw swe sems hor : Int) (w : World)
    (nL : lL ≤ 9223372036854775807) (h : ¬ Head lL lS lD idle crit sw swe sems hor) :
    Calls Try.prog 7 #[pv aL lL cL aS lS cS aD lD cD idle crit sw swe sems hor] w
      fun e w' => e = .returned (.bool false) ∧ Kp w w' := by
  have HH : Hid (¬ Head lL lS lD idle crit sw swe sems hor) := h
  clear h
  unfold pv
  go_enter Try.func7, Try.ntmps7
  try dsimp only [List.append]
  go_wp2
  all_goals first
    | (go_ret; exact ⟨rfl, (Kp.refl _).alloc _⟩)
    | (exact absurd (show Head lL lS lD idle crit sw swe sems hor from ⟨by omega, ⟨by omega, by omega, by omega, by omega, by omega, by omega⟩, by omega, by omega⟩) HH.out)
  all_goals go_ways

end Go.Proofs.Ytbhgjaaaffjjeaa.TB
