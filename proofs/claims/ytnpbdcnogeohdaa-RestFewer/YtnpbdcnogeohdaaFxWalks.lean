/- What each function of package fix, and of the document's answer to it, returns, in whole numbers. -/
import Derived.Test.YtnpbdcnogeohdaaRows
import Derived.Test.YtnpbdcnogeohdaaFxPlain
import Derived.WalkKit
import Derived.ProofKit
import Derived.OpenShut
namespace Go.Proofs.Ytnpbdcnogeohdaa.FX
open Go.ChangeShapes Go.WideShapes Go.ChangeAt Go.RowKit Go.Proofs.Ytnpbdcnogeohdaa.FX

theorem ret_int {k : IntKind} {a b : Int} (h : a = b) : Ending.returned (.int k a) = .returned (.int k b) := by rw [h]

theorem between_any (x lo hi : Int) (h : lo ≤ hi) (w : World) :
    Calls Try.prog 33 #[.int .i64 x, .int .i64 lo, .int .i64 hi] w fun e w' => e = .returned (.int .i64 (cl x lo hi)) ∧ w' = w := by
  by_cases c1 : x < lo
  · rw [cl_lo c1]
    go_enter Try.func33, Try.ntmps33
    go_wp2
    all_goals
      go_ret
      exact ⟨ret_int (by omega), rfl⟩
  · by_cases c2 : hi < x
    · rw [cl_hi c1 c2]
      go_enter Try.func33, Try.ntmps33
      go_wp2
      all_goals
        go_ret
        exact ⟨ret_int (by omega), rfl⟩
    · rw [cl_in c1 c2]
      go_enter Try.func33, Try.ntmps33
      go_wp2
      all_goals
        go_ret
        exact ⟨ret_int (by omega), rfl⟩

theorem util_any (c t : Int) (w : World) :
    Calls Try.prog 55 #[.int .i64 c, .int .i64 t] w fun e w' => e = .returned (.int .i64 (ut c t)) ∧ w' = w := by
  by_cases c1 : t < 1
  · rw [ut_never c1]
    go_enter Try.func55, Try.ntmps55
    go_wp2
    go_ret
    exact ⟨rfl, rfl⟩
  · rw [ut_up c1]
    have hb := cl_bd c 0 536870912 (by omega)
    have hm := fun w => between_any c 0 536870912 (by omega) w
    revert hb hm
    generalize cl c 0 536870912 = k
    intro hb hm
    obtain ⟨hb1, hb2⟩ := hb
    have hd := div_bd (p := k * 4294967296) (t := t) (by omega) (by omega)
    obtain ⟨hd1, hd2⟩ := hd
    have ht : 1 ≤ t := by omega
    clear c1
    by_cases c2 : 0 < k * 4294967296 % t
    · rw [up_pos c2]
      go_enter Try.func55, Try.ntmps55
      go_wp2_with (go_at_call 33; refine (hm _).mono ?_; rintro e w' ⟨rfl, rfl⟩)
      go_ret
      exact ⟨rfl, rfl⟩
    · rw [up_zero c2]
      go_enter Try.func55, Try.ntmps55
      go_wp2_with (go_at_call 33; refine (hm _).mono ?_; rintro e w' ⟨rfl, rfl⟩)
      go_ret
      exact ⟨rfl, rfl⟩

theorem times_any (u n : Int) (w : World) :
    Calls Try.prog 44 #[.int .i64 u, .int .i64 n] w fun e w' => e = .returned (.int .i64 (wrap64 (cl u 0 17179869184 * cl n 0 134217728))) ∧ w' = w := by
  go_enter Try.func44, Try.ntmps44
  go_wp2_with (go_at_call 33; refine (between_any _ _ _ (by omega) _).mono ?_; rintro e w' ⟨rfl, rfl⟩)
  go_ret
  exact ⟨rfl, rfl⟩

theorem whole_any (n : Int) (w : World) :
    Calls Try.prog 23 #[.int .i64 n] w fun e w' => e = .returned (.int .i64 (cl n (-1073741824) 1073741824 * 4294967296)) ∧ w' = w := by
  have hb := cl_bd n (-1073741824) 1073741824 (by omega)
  go_enter Try.func23, Try.ntmps23
  go_wp2_with (go_at_call 33; refine (between_any _ _ _ (by omega) _).mono ?_; rintro e w' ⟨rfl, rfl⟩)
  go_ret
  exact ⟨rfl, rfl⟩

theorem floor_any (x : Int) (w : World) (h1 : -9223372036854775808 ≤ x) (h2 : x ≤ 9223372036854775807) :
    Calls Try.prog 13 #[.int .i64 x] w fun e w' => e = .returned (.int .i64 (fl x)) ∧ w' = w := by
  unfold fl
  by_cases c0 : 0 ≤ x
  · go_enter Try.func13, Try.ntmps13
    go_wp2
    go_ret
    exact ⟨rfl, rfl⟩
  · obtain ⟨hm, hd⟩ | ⟨hm, hd, hp⟩ := quo_neg c0
    · go_enter Try.func13, Try.ntmps13
      go_wp2
      go_ret
      exact ⟨ret_int (by omega), rfl⟩
    · go_enter Try.func13, Try.ntmps13
      go_wp2
      go_ret
      exact ⟨ret_int (by omega), rfl⟩

theorem ref_clamp_any (x lo hi : Int) (w : World) :
    Calls Try.prog 36 #[.int .i64 x, .int .i64 lo, .int .i64 hi] w fun e w' => e = .returned (.int .i64 (cl x lo hi)) ∧ w' = w := by
  by_cases c1 : x < lo
  · rw [cl_lo c1]
    go_enter Try.func36, Try.ntmps36
    go_wp2
    go_ret
    exact ⟨rfl, rfl⟩
  · by_cases c2 : hi < x
    · rw [cl_hi c1 c2]
      go_enter Try.func36, Try.ntmps36
      go_wp2
      go_ret
      exact ⟨rfl, rfl⟩
    · rw [cl_in c1 c2]
      go_enter Try.func36, Try.ntmps36
      go_wp2
      go_ret
      exact ⟨rfl, rfl⟩

theorem ref_util_any (c t : Int) (w : World) :
    Calls Try.prog 50 #[.int .i64 c, .int .i64 t] w fun e w' => e = .returned (.int .i64 (ut c t)) ∧ w' = w := by
  by_cases c1 : t < 1
  · rw [ut_never c1]
    go_enter Try.func50, Try.ntmps50
    go_wp2
    go_ret
    exact ⟨rfl, rfl⟩
  · rw [ut_up c1]
    have hb := cl_bd c 0 536870912 (by omega)
    have hm := fun w => ref_clamp_any c 0 536870912 w
    revert hb hm
    generalize cl c 0 536870912 = k
    intro hb hm
    obtain ⟨hb1, hb2⟩ := hb
    have hd := div_bd (p := k * 4294967296) (t := t) (by omega) (by omega)
    obtain ⟨hd1, hd2⟩ := hd
    have ht : 1 ≤ t := by omega
    have hr := Int.emod_nonneg (k * 4294967296) (show t ≠ 0 by omega)
    clear c1
    by_cases c2 : 0 < k * 4294967296 % t
    · rw [up_pos c2]
      go_enter Try.func50, Try.ntmps50
      go_wp2_with (go_at_call 36; refine (hm _).mono ?_; rintro e w' ⟨rfl, rfl⟩)
      go_ret
      exact ⟨rfl, rfl⟩
    · rw [up_zero c2]
      have c3 : k * 4294967296 % t = 0 := by omega
      go_enter Try.func50, Try.ntmps50
      go_wp2_with (go_at_call 36; refine (hm _).mono ?_; rintro e w' ⟨rfl, rfl⟩)
      go_ret
      exact ⟨rfl, rfl⟩

theorem ref_times_any (u n : Int) (w : World) :
    Calls Try.prog 39 #[.int .i64 u, .int .i64 n] w fun e w' => e = .returned (.int .i64 (wrap64 (cl u 0 17179869184 * cl n 0 134217728))) ∧ w' = w := by
  go_enter Try.func39, Try.ntmps39
  go_wp2_with (go_at_call 36; refine (ref_clamp_any _ _ _ _).mono ?_; rintro e w' ⟨rfl, rfl⟩)
  go_ret
  exact ⟨rfl, rfl⟩

theorem ref_whole_any (n : Int) (w : World) :
    Calls Try.prog 25 #[.int .i64 n] w fun e w' => e = .returned (.int .i64 (cl n (-1073741824) 1073741824 * 4294967296)) ∧ w' = w := by
  have hb := cl_bd n (-1073741824) 1073741824 (by omega)
  go_enter Try.func25, Try.ntmps25
  go_wp2_with (go_at_call 36; refine (ref_clamp_any _ _ _ _).mono ?_; rintro e w' ⟨rfl, rfl⟩)
  go_ret
  exact ⟨rfl, rfl⟩

theorem ref_floor_any (x : Int) (w : World) (h1 : -9223372036854775808 ≤ x) (h2 : x ≤ 9223372036854775807) :
    Calls Try.prog 15 #[.int .i64 x] w fun e w' => e = .returned (.int .i64 (fl x)) ∧ w' = w := by
  unfold fl
  by_cases c0 : 0 ≤ x
  · go_enter Try.func15, Try.ntmps15
    go_wp2
    go_ret
    exact ⟨rfl, rfl⟩
  · obtain ⟨hm, hd⟩ | ⟨hm, hd, hp⟩ := quo_neg c0
    · clear hm
      go_enter Try.func15, Try.ntmps15
      go_wp2
      go_ret
      exact ⟨ret_int (by omega), rfl⟩
    · clear hm
      go_enter Try.func15, Try.ntmps15
      go_wp2
      go_ret
      exact ⟨ret_int (by omega), rfl⟩

theorem util_at (c t : Int) (w : World) :
    Calls Try.prog 55 #[.int .i64 c, .int .i64 t] w fun e w' => e = .returned (.int .i64 (ut c t)) ∧ w = w' :=
  (util_any c t w).mono fun _ _ ⟨h, k⟩ => ⟨h, k.symm⟩

theorem rutil_at (c t : Int) (w : World) :
    Calls Try.prog 50 #[.int .i64 c, .int .i64 t] w fun e w' => e = .returned (.int .i64 (ut c t)) ∧ w = w' :=
  (ref_util_any c t w).mono fun _ _ ⟨h, k⟩ => ⟨h, k.symm⟩

end Go.Proofs.Ytnpbdcnogeohdaa.FX
