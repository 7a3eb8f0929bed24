/- Who runs. -/
import Derived.Test.YteegjgecaopnlaaPckAns
import Derived.Test.YteegjgecaopnlaaPckRef
namespace Go.Proofs.Yteegjgecaopnlaa.PK
open Go.ChangeShapes Go.WideShapes Go.ChangeAt Go.RowKit Go.Proofs.Yteegjgecaopnlaa.AR Go.Proofs.Yteegjgecaopnlaa.TB Go.Proofs.Yteegjgecaopnlaa.TK Go.Proofs.Yteegjgecaopnlaa.JB Go.Proofs.Yteegjgecaopnlaa.RW

set_option maxHeartbeats 8000000 in
theorem pickWho_walk (ao : Option Addr) (len cap : Nat) (L : List Tk) (jo : Option Addr) (jl jc : Nat) (J : List Jb) (zo : Option Addr) (zl zc : Nat) (Z : List Int) (c : Int) (w : World) (h : LAt w ao len L) (_ : len * 64 ≤ 140737488351232) (hj : JsAt w jo jl J) (hz1 : IntsAt w zo zl Z) (hz2 : zl * 8 ≤ 140737488351232) (_ : (Lit.int .i64 c).wf = true) :
    Calls Try.prog 3 #[.slice ao len cap, .slice jo jl jc, .slice zo zl zc, .int .i64 c] w fun e w' => e = .returned (.bool true) ∧ Below w.heap.size w w' := by
  have hz : NAt w zo zl Z := ⟨hz1, hz2⟩
  have HE : Hid (∀ w', Kp w w' → Below w.heap.size w w') := fun w' q => q
  have H1 : Hid (∀ W, Kp w W → Calls Try.prog 7 #[.slice ao len cap, .slice jo jl jc, .slice zo zl zc, .int .i64 c] W fun e w'' => e = .returned (.tuple #[.int .i64 (chI L J Z c), .bool (decide (0 < jl))]) ∧ Kp W w'') := fun W k => choose_any ao len cap L jo jl jc J zo zl zc Z c W (h.kept k) (hj.kept k) (hz.kept k)
  have H2 : Hid (∀ W, Kp w W → Calls Try.prog 8 #[.slice ao len cap, .slice jo jl jc, .slice zo zl zc, .int .i64 c] W fun e w'' => e = .returned (.tuple #[.int .i64 (chI L J Z c), .bool (decide (0 < jl))]) ∧ W = w'') := fun W k => rchoose_any ao len cap L jo jl jc J zo zl zc Z c W (h.kept k) (hj.kept k) (hz.kept k)
  generalize chI L J Z c = r at *
  generalize decide (0 < jl) = y at *
  clear h hj hz hz1 hz2
  go_enter Try.func3, Try.ntmps3
  go_wp2_with (first
    | (go_at_call 7; refine (H1.out _ (Kp.refl _)).mono ?_; rintro e w1 ⟨rfl, k1⟩)
    | (go_at_call 8; refine (H2.out _ k1).mono ?_; rintro e w2 ⟨rfl, rfl⟩)
    | (go_at_call 9; refine (panswers_any _).mono ?_; rintro e w3 ⟨rfl, k3⟩)
    | fail)
  go_ret
  exact ⟨by simp, HE.out _ (k1.trans k3)⟩

end Go.Proofs.Yteegjgecaopnlaa.PK
