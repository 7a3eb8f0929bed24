/- What each function of package fix, and of the document's answer to it, returns, in whole numbers. -/
import Derived.Test.YtgecandbbmljbaaRows
import Derived.Test.YtgecandbbmljbaaFxPlain
import Derived.WalkKit
import Derived.ProofKit
import Derived.OpenShut
namespace Go.Proofs.Ytgecandbbmljbaa.FX
open Go.ChangeShapes Go.WideShapes Go.ChangeAt Go.RowKit Go.Proofs.Ytgecandbbmljbaa.FX

theorem ret_int {k : IntKind} {a b : Int} (h : a = b) : Ending.returned (.int k a) = .returned (.int k b) := by rw [h]

theorem between_any (x lo hi : Int) (h : lo ≤ hi) (w : World) :
    Calls Try.prog 37 #[.int .i64 x, .int .i64 lo, .int .i64 hi] w fun e w' => e = .returned (.int .i64 (cl x lo hi)) ∧ w' = w := by
  by_cases c1 : x < lo
  · rw [cl_lo c1]
    go_enter Try.func37, Try.ntmps37
    go_wp2
    all_goals
      go_ret
      exact ⟨ret_int (by omega), rfl⟩
  · by_cases c2 : hi < x
    · rw [cl_hi c1 c2]
      go_enter Try.func37, Try.ntmps37
      go_wp2
      all_goals
        go_ret
        exact ⟨ret_int (by omega), rfl⟩
    · rw [cl_in c1 c2]
      go_enter Try.func37, Try.ntmps37
      go_wp2
      all_goals
        go_ret
        exact ⟨ret_int (by omega), rfl⟩

theorem util_any (c t : Int) (w : World) :
    Calls Try.prog 26 #[.int .i64 c, .int .i64 t] w fun e w' => e = .returned (.int .i64 (ut c t)) ∧ w' = w := by
  by_cases c1 : t < 1
  · rw [ut_never c1]
    go_enter Try.func26, Try.ntmps26
    go_wp2
    go_ret
    exact ⟨rfl, rfl⟩
  · rw [ut_up c1]
    have hb := cl_bd c 0 536870912 (by omega)
    have hm := fun w => between_any c 0 536870912 (by omega) w
    revert hb hm
    generalize cl c 0 536870912 = k
    intro hb hm
    obtain ⟨hb1, hb2⟩ := hb
    have hd := div_bd (p := k * 4294967296) (t := t) (by omega) (by omega)
    obtain ⟨hd1, hd2⟩ := hd
    have ht : 1 ≤ t := by omega
    clear c1
    by_cases c2 : 0 < k * 4294967296 % t
    · rw [up_pos c2]
      go_enter Try.func26, Try.ntmps26
      go_wp2_with (go_at_call 37; refine (hm _).mono ?_; rintro e w' ⟨rfl, rfl⟩)
      go_ret
      exact ⟨rfl, rfl⟩
    · rw [up_zero c2]
      go_enter Try.func26, Try.ntmps26
      go_wp2_with (go_at_call 37; refine (hm _).mono ?_; rintro e w' ⟨rfl, rfl⟩)
      go_ret
      exact ⟨rfl, rfl⟩

theorem ref_clamp_any (x lo hi : Int) (w : World) :
    Calls Try.prog 38 #[.int .i64 x, .int .i64 lo, .int .i64 hi] w fun e w' => e = .returned (.int .i64 (cl x lo hi)) ∧ w' = w := by
  by_cases c1 : x < lo
  · rw [cl_lo c1]
    go_enter Try.func38, Try.ntmps38
    go_wp2
    go_ret
    exact ⟨rfl, rfl⟩
  · by_cases c2 : hi < x
    · rw [cl_hi c1 c2]
      go_enter Try.func38, Try.ntmps38
      go_wp2
      go_ret
      exact ⟨rfl, rfl⟩
    · rw [cl_in c1 c2]
      go_enter Try.func38, Try.ntmps38
      go_wp2
      go_ret
      exact ⟨rfl, rfl⟩

theorem ref_util_any (c t : Int) (w : World) :
    Calls Try.prog 27 #[.int .i64 c, .int .i64 t] w fun e w' => e = .returned (.int .i64 (ut c t)) ∧ w' = w := by
  by_cases c1 : t < 1
  · rw [ut_never c1]
    go_enter Try.func27, Try.ntmps27
    go_wp2
    go_ret
    exact ⟨rfl, rfl⟩
  · rw [ut_up c1]
    have hb := cl_bd c 0 536870912 (by omega)
    have hm := fun w => ref_clamp_any c 0 536870912 w
    revert hb hm
    generalize cl c 0 536870912 = k
    intro hb hm
    obtain ⟨hb1, hb2⟩ := hb
    have hd := div_bd (p := k * 4294967296) (t := t) (by omega) (by omega)
    obtain ⟨hd1, hd2⟩ := hd
    have ht : 1 ≤ t := by omega
    have hr := Int.emod_nonneg (k * 4294967296) (show t ≠ 0 by omega)
    clear c1
    by_cases c2 : 0 < k * 4294967296 % t
    · rw [up_pos c2]
      go_enter Try.func27, Try.ntmps27
      go_wp2_with (go_at_call 38; refine (hm _).mono ?_; rintro e w' ⟨rfl, rfl⟩)
      go_ret
      exact ⟨rfl, rfl⟩
    · rw [up_zero c2]
      have c3 : k * 4294967296 % t = 0 := by omega
      go_enter Try.func27, Try.ntmps27
      go_wp2_with (go_at_call 38; refine (hm _).mono ?_; rintro e w' ⟨rfl, rfl⟩)
      go_ret
      exact ⟨rfl, rfl⟩

theorem util_at (c t : Int) (w : World) :
    Calls Try.prog 26 #[.int .i64 c, .int .i64 t] w fun e w' => e = .returned (.int .i64 (ut c t)) ∧ w = w' :=
  (util_any c t w).mono fun _ _ ⟨h, k⟩ => ⟨h, k.symm⟩

theorem rutil_at (c t : Int) (w : World) :
    Calls Try.prog 27 #[.int .i64 c, .int .i64 t] w fun e w' => e = .returned (.int .i64 (ut c t)) ∧ w = w' :=
  (ref_util_any c t w).mono fun _ _ ⟨h, k⟩ => ⟨h, k.symm⟩

end Go.Proofs.Ytgecandbbmljbaa.FX
