/- Any semaphore's ceiling. -/
import Derived.Test.YtgdjdhkehgjgfaaTskAns
namespace Go.Proofs.Ytgdjdhkehgjgfaa.TK
open Go.ChangeShapes Go.WideShapes Go.ChangeAt Go.RowKit Go.Proofs.Ytgdjdhkehgjgfaa.AR Go.Proofs.Ytgdjdhkehgjgfaa.TB

set_option maxHeartbeats 8000000 in
theorem taskCeiling_walk (ao : Option Addr) (len cap : Nat) (L : List Tk) (s : Int) (w : World) (h : LAt w ao len L) (_ : len * 64 ≤ 140737488351232) (_ : (Lit.int .i64 s).wf = true) :
    Calls Try.prog 6 #[.slice ao len cap, .int .i64 s] w fun e w' => e = .returned (.bool true) ∧ Below w.heap.size w w' := by
  have HE : Hid (∀ w', Kp w w' → Below w.heap.size w w') := fun w' q => q
  have H1 : Hid (∀ W, Kp w W → Calls Try.prog 18 #[.slice ao len cap, .int .i64 s] W fun e w'' => e = .returned (.int .i64 (cel L s len)) ∧ Kp W w'') := fun W k => ceiling_any ao len cap L s W (h.kept k)
  have H2 : Hid (∀ W, Kp w W → Calls Try.prog 19 #[.slice ao len cap, .int .i64 s] W fun e w'' => e = .returned (.int .i64 (cel L s len)) ∧ Kp W w'') := fun W k => rceiling_any ao len cap L s W (h.kept k)
  generalize cel L s len = c at *
  clear h
  go_enter Try.func6, Try.ntmps6
  go_wp2_with (first
    | (go_at_call 9; refine (tanswers_any _).mono ?_; rintro e w1 ⟨rfl, k1⟩)
    | (go_at_call 18; refine (H1.out _ k1).mono ?_; rintro e w2 ⟨rfl, k2⟩)
    | (go_at_call 19; refine (H2.out _ (k1.trans k2)).mono ?_; rintro e w3 ⟨rfl, k3⟩)
    | fail)
  go_ret
  exact ⟨by simp, HE.out _ ((k1.trans k2).trans k3)⟩

end Go.Proofs.Ytgdjdhkehgjgfaa.TK
