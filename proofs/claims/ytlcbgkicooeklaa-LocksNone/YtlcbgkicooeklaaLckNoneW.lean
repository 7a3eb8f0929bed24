/- Locks that are none. -/
import Derived.Test.YtlcbgkicooeklaaLckAns
namespace Go.Proofs.Ytlcbgkicooeklaa.LK
open Go.ChangeShapes Go.WideShapes Go.ChangeAt Go.RowKit Go.Proofs.Ytlcbgkicooeklaa.AR

set_option maxHeartbeats 8000000 in
theorem locksNone_walk (ao : Option Addr) (len cap : Nat) (L : List TK.Tk) (t s c : Int) (w : World) (_ : TK.LAt w ao len L) (_ : len * 64 ≤ 140737488351232) (_ : (Lit.int .i64 t).wf = true) (_ : (Lit.int .i64 s).wf = true) (_ : (Lit.int .i64 c).wf = true) :
    Calls Try.prog 7 #[.slice ao len cap, .int .i64 t, .int .i64 s, .int .i64 c] w fun e w' => e = .returned (.bool true) ∧ Below w.heap.size w w' := by
  have HE : Hid (∀ w', Kp w w' → Below w.heap.size w w') := fun w' q => Kp.below q
  go_enter Try.func7, Try.ntmps7
  go_wp2_with (first
    | (go_at_call 11; refine (take_none _ _ _ _).mono ?_; rintro e w1 ⟨rfl, k1⟩)
    | (go_at_call 14; refine (give_none _ _ _).mono ?_; rintro e w2 ⟨rfl, k2⟩)
    | (go_at_call 15; refine (spend_none _ _).mono ?_; rintro e w3 ⟨rfl, k3⟩)
    | (go_at_call 19; refine (free_none _ _).mono ?_; rintro e w4 ⟨rfl, k4⟩)
    | (go_at_call 9; refine (answers_any _).mono ?_; rintro e w5 ⟨rfl, k5⟩)
    | (go_at_call 17; refine (over_none _ _).mono ?_; rintro e w6 ⟨rfl, k6⟩)
    | (go_at_call 24; refine (list_none _).mono ?_; rintro e w7 ⟨rfl, rfl⟩)
    | (go_at_call 21; refine (lceil_none _ _).mono ?_; rintro e w8 ⟨rfl, rfl⟩)
    | fail)
  go_ret
  exact ⟨rfl, HE.out _ (((((k1.trans k2).trans k3).trans k4).trans k5).trans k6)⟩

end Go.Proofs.Ytlcbgkicooeklaa.LK
