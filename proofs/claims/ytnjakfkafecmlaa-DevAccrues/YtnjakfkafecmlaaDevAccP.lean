/- What a device costs from one moment to the next. -/
import Derived.Test.YtnjakfkafecmlaaDevFacts
namespace Go.Proofs.Ytnjakfkafecmlaa.DV
open Go.ChangeShapes Go.WideShapes Go.ChangeAt Go.RowKit Go.Proofs.Ytnjakfkafecmlaa.AR Go.Proofs.Ytnjakfkafecmlaa.TB

theorem acc_never {on off down up downE upE f u now : Int} (h : f = 0 ∧ u = 0) :
    enI on off down up downE upE f u (now + 1) - enI on off down up downE upE f u now = on := by
  rw [en_never h, en_never h, Int.mul_add]
  omega

theorem mul_succ' (a q : Int) : a * (q + 1) = a * q + a := by rw [Int.mul_add, Int.mul_one]

/-- the four states, one moment on -/
theorem acc_was {on off down up downE upE f u now : Int} (h : ¬ (f = 0 ∧ u = 0)) (hs : f + down ≤ u - up) (_hd : 0 ≤ down) (hu : 0 ≤ up) (hf : f ≤ now) :
    (u ≤ now ∧ stI down up f u now = 1 ∧ ¬ u - up - 1 = now ∧ enI on off down up downE upE f u (now + 1) - enI on off down up downE upE f u now = on) ∨
    (stI down up f u now = 3 ∧ ¬ u - up - 1 = now ∧ enI on off down up downE upE f u (now + 1) - enI on off down up downE upE f u now = 0) ∨
    (stI down up f u now = 3 ∧ u - up - 1 = now ∧ enI on off down up downE upE f u (now + 1) - enI on off down up downE upE f u now = upE) ∨
    (stI down up f u now = 2 ∧ ¬ u - up - 1 = now ∧ enI on off down up downE upE f u (now + 1) - enI on off down up downE upE f u now = off) ∨
    (stI down up f u now = 2 ∧ u - up - 1 = now ∧ enI on off down up downE upE f u (now + 1) - enI on off down up downE upE f u now = off + upE) ∨
    (stI down up f u now = 4 ∧ ¬ u - up - 1 = now ∧ enI on off down up downE upE f u (now + 1) - enI on off down up downE upE f u now = 0) := by
  rw [en_was h, en_was h, if_pos hf, if_pos (by omega : f ≤ now + 1)]
  unfold stI
  by_cases a1 : u ≤ now
  · refine .inl ⟨a1, if_pos (.inr (.inr a1)), by omega, ?_⟩
    rw [show max 0 (min (u - up) (now + 1) - (f + down)) = max 0 (min (u - up) now - (f + down)) from by omega, show max 0 (now + 1 - u) = max 0 (now - u) + 1 from by omega, mul_succ', if_pos (by omega : u - up ≤ now + 1), if_pos (by omega : u - up ≤ now)]
    omega
  · have e2 : max 0 (now + 1 - u) = max 0 (now - u) := by omega
    rw [if_neg (show ¬ ((f = 0 ∧ u = 0) ∨ now < f ∨ u ≤ now) by omega), e2]
    by_cases a2 : now < f + down
    · rw [if_pos a2, show max 0 (min (u - up) (now + 1) - (f + down)) = max 0 (min (u - up) now - (f + down)) from by omega, if_neg (by omega : ¬ u - up ≤ now)]
      by_cases a3 : u - up - 1 = now
      · rw [if_pos (by omega : u - up ≤ now + 1)]
        omega
      · rw [if_neg (by omega : ¬ u - up ≤ now + 1)]
        omega
    · rw [if_neg a2]
      by_cases a4 : now < u - up
      · rw [if_pos a4, show max 0 (min (u - up) (now + 1) - (f + down)) = max 0 (min (u - up) now - (f + down)) + 1 from by omega, mul_succ', if_neg (by omega : ¬ u - up ≤ now)]
        by_cases a3 : u - up - 1 = now
        · rw [if_pos (by omega : u - up ≤ now + 1)]
          omega
        · rw [if_neg (by omega : ¬ u - up ≤ now + 1)]
          omega
      · rw [if_neg a4, show max 0 (min (u - up) (now + 1) - (f + down)) = max 0 (min (u - up) now - (f + down)) from by omega, if_pos (by omega : u - up ≤ now + 1), if_pos (by omega : u - up ≤ now)]
        omega

end Go.Proofs.Ytnjakfkafecmlaa.DV
