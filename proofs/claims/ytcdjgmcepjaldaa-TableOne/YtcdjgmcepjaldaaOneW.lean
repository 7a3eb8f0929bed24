/- A machine in which one number is out of its range may not be. -/
import Derived.Test.YtcdjgmcepjaldaaAns
namespace Go.Proofs.Ytcdjgmcepjaldaa.TB
open Go.ChangeShapes Go.WideShapes Go.ChangeAt Go.RowKit Go.Proofs.Ytcdjgmcepjaldaa.AR

set_option maxHeartbeats 4000000 in
theorem tableOne_walk (aL : Option Addr) (lL cL : Nat) (rL : List (List Int)) (aS : Option Addr) (lS cS : Nat) (rS : List (List Int)) (aD : Option Addr) (lD cD : Nat) (rD : List (List Int)) (idle crit sw swe sems hor : Int) (what : Int) (low : Bool) (w : World)
    (h : Mach w aL lL rL aS lS rS aD lD rD) (_ : (Lit.int .u8 what).wf = true) :
    Calls Try.prog 7 #[pv aL lL cL aS lS cS aD lD cD idle crit sw swe sems hor, .int .u8 what, .bool low] w
      fun e w' => e = .returned (.bool true) ∧ Below w.heap.size w w' := by
  have HB : Hid (∀ o, Kp w (w.alloc o)) := fun o => (Kp.refl w).alloc o
  have HE : Hid (∀ w', Kp w w' → Below w.heap.size w w') := fun w' q => q
  have er : Hid (erc false = 2) := rfl
  unfold pv
  go_enter Try.func7, Try.ntmps7
  go_wp2_with fail
  all_goals
    refine (tanswers_any _).mono ?_
    rintro e w2 ⟨rfl, k2⟩
    obtain ⟨d0, d1, d2, d3, d4, d5, d6, d7, d8⟩ := box_cells k2
    have K2 := (HB.out _).trans k2
    clear k2
    go_wp2_with fail
    refine (check_any aL lL cL rL aS lS cS rS aD lD cD rD _ _ _ _ _ _ _ (h.kept K2)).mono ?_
    rintro e w3 ⟨rfl, k3⟩
    rw [may_f]
    rotate_left
    · rintro ⟨⟨q1, q2, q3, q4, q5, q6⟩, ⟨l1, _⟩, _⟩
      omega
    rw [er.out]
    go_wp2
    go_ret
    exact ⟨rfl, HE.out _ (K2.trans k3)⟩

end Go.Proofs.Ytcdjgmcepjaldaa.TB
