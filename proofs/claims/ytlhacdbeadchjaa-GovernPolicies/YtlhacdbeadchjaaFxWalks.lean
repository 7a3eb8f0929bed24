/- What each function of package fix, and of the document's answer to it, returns, in whole numbers. -/
import Derived.Test.YtlhacdbeadchjaaRows
import Derived.Test.YtlhacdbeadchjaaFxPlain
import Derived.WalkKit
import Derived.ProofKit
import Derived.OpenShut
namespace Go.Proofs.Ytlhacdbeadchjaa.FX
open Go.ChangeShapes Go.WideShapes Go.ChangeAt Go.RowKit Go.Proofs.Ytlhacdbeadchjaa.FX

theorem ret_int {k : IntKind} {a b : Int} (h : a = b) : Ending.returned (.int k a) = .returned (.int k b) := by rw [h]

theorem between_any (x lo hi : Int) (h : lo ≤ hi) (w : World) :
    Calls Try.prog 24 #[.int .i64 x, .int .i64 lo, .int .i64 hi] w fun e w' => e = .returned (.int .i64 (cl x lo hi)) ∧ w' = w := by
  by_cases c1 : x < lo
  · rw [cl_lo c1]
    go_enter Try.func24, Try.ntmps24
    go_wp2
    all_goals
      go_ret
      exact ⟨ret_int (by omega), rfl⟩
  · by_cases c2 : hi < x
    · rw [cl_hi c1 c2]
      go_enter Try.func24, Try.ntmps24
      go_wp2
      all_goals
        go_ret
        exact ⟨ret_int (by omega), rfl⟩
    · rw [cl_in c1 c2]
      go_enter Try.func24, Try.ntmps24
      go_wp2
      all_goals
        go_ret
        exact ⟨ret_int (by omega), rfl⟩

theorem whole_any (n : Int) (w : World) :
    Calls Try.prog 21 #[.int .i64 n] w fun e w' => e = .returned (.int .i64 (cl n (-1073741824) 1073741824 * 4294967296)) ∧ w' = w := by
  have hb := cl_bd n (-1073741824) 1073741824 (by omega)
  go_enter Try.func21, Try.ntmps21
  go_wp2_with (go_at_call 24; refine (between_any _ _ _ (by omega) _).mono ?_; rintro e w' ⟨rfl, rfl⟩)
  go_ret
  exact ⟨rfl, rfl⟩

theorem ref_clamp_any (x lo hi : Int) (w : World) :
    Calls Try.prog 17 #[.int .i64 x, .int .i64 lo, .int .i64 hi] w fun e w' => e = .returned (.int .i64 (cl x lo hi)) ∧ w' = w := by
  by_cases c1 : x < lo
  · rw [cl_lo c1]
    go_enter Try.func17, Try.ntmps17
    go_wp2
    go_ret
    exact ⟨rfl, rfl⟩
  · by_cases c2 : hi < x
    · rw [cl_hi c1 c2]
      go_enter Try.func17, Try.ntmps17
      go_wp2
      go_ret
      exact ⟨rfl, rfl⟩
    · rw [cl_in c1 c2]
      go_enter Try.func17, Try.ntmps17
      go_wp2
      go_ret
      exact ⟨rfl, rfl⟩

theorem ref_whole_any (n : Int) (w : World) :
    Calls Try.prog 12 #[.int .i64 n] w fun e w' => e = .returned (.int .i64 (cl n (-1073741824) 1073741824 * 4294967296)) ∧ w' = w := by
  have hb := cl_bd n (-1073741824) 1073741824 (by omega)
  go_enter Try.func12, Try.ntmps12
  go_wp2_with (go_at_call 17; refine (ref_clamp_any _ _ _ _).mono ?_; rintro e w' ⟨rfl, rfl⟩)
  go_ret
  exact ⟨rfl, rfl⟩

end Go.Proofs.Ytlhacdbeadchjaa.FX
