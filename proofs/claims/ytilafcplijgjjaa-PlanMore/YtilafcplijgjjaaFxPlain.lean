/- Plain facts on whole numbers: a number held between two others, and a quotient that is rounded up. -/
import Derived.KernelRfl
namespace Go.Proofs.Ytilafcplijgjjaa.FX

/-- x, or the nearest of the two bounds -/
def cl (x lo hi : Int) : Int := if x < lo then lo else if hi < x then hi else x

theorem cl_lo {x lo hi : Int} (h : x < lo) : cl x lo hi = lo := by unfold cl; rw [if_pos h]
theorem cl_hi {x lo hi : Int} (h0 : ¬ x < lo) (h : hi < x) : cl x lo hi = hi := by unfold cl; rw [if_neg h0, if_pos h]
theorem cl_in {x lo hi : Int} (h0 : ¬ x < lo) (h : ¬ hi < x) : cl x lo hi = x := by unfold cl; rw [if_neg h0, if_neg h]
theorem cl_bd (x lo hi : Int) (h : lo ≤ hi) : lo ≤ cl x lo hi ∧ cl x lo hi ≤ hi := by
  unfold cl; repeat' split
  all_goals omega
theorem cl_mono {x y lo hi : Int} (h : lo ≤ hi) (hxy : x ≤ y) : cl x lo hi ≤ cl y lo hi := by
  unfold cl; repeat' split
  all_goals omega

/-- p divided by t, rounded up (t at least 1) -/
def up (p t : Int) : Int := p / t + (if 0 < p % t then 1 else 0)

theorem up_pos {p t : Int} (h : 0 < p % t) : up p t = p / t + 1 := by unfold up; rw [if_pos h]
theorem up_zero {p t : Int} (h : ¬ 0 < p % t) : up p t = p / t := by unfold up; rw [if_neg h]; omega

/-- what 'rounded up' means: t times it is at least p, t times one less is not -/
theorem up_spec {p t : Int} (ht : 1 ≤ t) : p ≤ t * up p t ∧ t * up p t < p + t := by
  have h1 := Int.mul_ediv_add_emod p t
  have h2 := Int.emod_nonneg p (show t ≠ 0 by omega)
  have h3 := Int.emod_lt_of_pos p (show 0 < t by omega)
  by_cases h : 0 < p % t
  · rw [up_pos h, Int.mul_add]; omega
  · rw [up_zero h]; omega

theorem up_le_iff {p t n : Int} (ht : 1 ≤ t) : up p t ≤ n ↔ p ≤ t * n := by
  have hs := up_spec (p := p) ht
  constructor
  · intro h
    have := Int.mul_le_mul_of_nonneg_left h (show 0 ≤ t by omega)
    omega
  · intro h
    by_cases hc : up p t ≤ n
    · exact hc
    · have h1 : n + 1 ≤ up p t := by omega
      have h2 := Int.mul_le_mul_of_nonneg_left h1 (show 0 ≤ t by omega)
      rw [Int.mul_add] at h2; omega

theorem up_nonneg {p t : Int} (hp : 0 ≤ p) (ht : 1 ≤ t) : 0 ≤ up p t := by
  have := Int.ediv_nonneg hp (show 0 ≤ t by omega)
  unfold up; split <;> omega

theorem up_le {p t : Int} (hp : 0 ≤ p) (ht : 1 ≤ t) : up p t ≤ p := by
  rw [up_le_iff ht]
  have := Int.mul_le_mul_of_nonneg_right ht hp
  omega

theorem div_bd {p t : Int} (hp : 0 ≤ p) (ht : 1 ≤ t) : 0 ≤ p / t ∧ p / t ≤ p :=
  ⟨Int.ediv_nonneg hp (by omega), Int.ediv_le_self _ hp⟩

/-- quanta c as a part of the period t -/
def ut (c t : Int) : Int := if t < 1 then 1099511627776 else up (cl c 0 536870912 * 4294967296) t

theorem ut_never {c t : Int} (h : t < 1) : ut c t = 1099511627776 := by unfold ut; rw [if_pos h]
theorem ut_up {c t : Int} (h : ¬ t < 1) : ut c t = up (cl c 0 536870912 * 4294967296) t := by unfold ut; rw [if_neg h]

theorem ut_bd (c t : Int) : 0 ≤ ut c t ∧ ut c t ≤ 2305843009213693952 := by
  have hc := cl_bd c 0 536870912 (by omega)
  by_cases h : t < 1
  · rw [ut_never h]; omega
  · rw [ut_up h]
    have h1 := up_nonneg (p := cl c 0 536870912 * 4294967296) (t := t) (by omega) (by omega)
    have h2 := up_le (p := cl c 0 536870912 * 4294967296) (t := t) (by omega) (by omega)
    omega

/-- how many whole quanta -/
def fl (x : Int) : Int := x / 4294967296

/-- below 0 a quotient is cut towards 0, and its rest is below 0, unless there is none -/
theorem quo_neg {x : Int} (h : ¬ 0 ≤ x) :
    (x.tmod 4294967296 = 0 ∧ x.tdiv 4294967296 = x / 4294967296) ∨ (x.tmod 4294967296 = x % 4294967296 - 4294967296 ∧ x.tdiv 4294967296 = x / 4294967296 + 1 ∧ 0 < x % 4294967296) := by
  have hm := Int.tmod_eq_emod (a := x) (b := 4294967296)
  have hd := Int.tdiv_eq_ediv (a := x) (b := 4294967296)
  by_cases c : (4294967296 : Int) ∣ x
  · left
    rw [if_pos (Or.inr c)] at hm hd
    omega
  · right
    rw [if_neg (by omega)] at hm hd
    have e1 : (Int.natAbs 4294967296 : Int) = 4294967296 := rfl
    have e2 : Int.sign 4294967296 = 1 := rfl
    omega

theorem up_mono {p q t : Int} (ht : 1 ≤ t) (h : p ≤ q) : up p t ≤ up q t := by
  rw [up_le_iff ht]
  have := (up_spec (p := q) ht).1
  omega

theorem up_anti {p s t : Int} (hp : 0 ≤ p) (hs : 1 ≤ s) (h : s ≤ t) : up p t ≤ up p s := by
  rw [up_le_iff (show 1 ≤ t by omega)]
  have h1 := (up_spec (p := p) hs).1
  have h2 := Int.mul_le_mul_of_nonneg_right h (up_nonneg hp hs)
  omega

theorem up_sum {p q t : Int} (ht : 1 ≤ t) : up p t + up q t - up (p + q) t = 0 ∨ up p t + up q t - up (p + q) t = 1 := by
  have h1 := up_spec (p := p) ht
  have h2 := up_spec (p := q) ht
  have h3 := up_spec (p := p + q) ht
  have e1 : up (p + q) t ≤ up p t + up q t := by
    rw [up_le_iff ht, Int.mul_add]; omega
  have e2 : up p t + up q t - 1 ≤ up (p + q) t := by
    by_cases hc : up p t + up q t - 1 ≤ up (p + q) t
    · exact hc
    · have h4 : up (p + q) t ≤ up p t + up q t - 2 := by omega
      have h5 := Int.mul_le_mul_of_nonneg_left h4 (show 0 ≤ t by omega)
      rw [Int.mul_sub, Int.mul_add] at h5
      omega
  omega

theorem ut_mono {a b : Int} (t : Int) (h : a ≤ b) : ut a t ≤ ut b t := by
  by_cases c : t < 1
  · rw [ut_never c, ut_never c]; omega
  · rw [ut_up c, ut_up c]
    have := cl_mono (lo := 0) (hi := 536870912) (by omega) h
    exact up_mono (by omega) (by omega)

theorem ut_anti (a : Int) {s t : Int} (hs : ¬ s < 1) (h : s ≤ t) : ut a t ≤ ut a s := by
  rw [ut_up hs, ut_up (show ¬ t < 1 by omega)]
  have := cl_bd a 0 536870912 (by omega)
  exact up_anti (by omega) (by omega) h

theorem ut_sum {m n t : Int} (h1 : 0 ≤ m) (h2 : m ≤ 268435455) (h3 : 0 ≤ n) (h4 : n ≤ 268435455) (ht : 1 ≤ t) :
    ut m t + ut n t - ut (m + n) t = 0 ∨ ut m t + ut n t - ut (m + n) t = 1 := by
  have c : ¬ t < 1 := by omega
  rw [ut_up c, ut_up c, ut_up c, cl_in (by omega) (by omega), cl_in (by omega) (by omega), cl_in (by omega) (by omega), Int.add_mul]
  exact up_sum ht

/-- enough, and one unit less is not; it is 0 only of 0 -/
theorem ut_enough {c t : Int} (h1 : 0 ≤ c) (h2 : c ≤ 536870912) (ht : 1 ≤ t) (ht2 : t ≤ 536870912) :
    c * 4294967296 ≤ ut c t * t ∧ ut c t * t < c * 4294967296 + t ∧ (ut c t - 1) * t < c * 4294967296 ∧ (ut c t - 1) * t = ut c t * t - t ∧ ((ut c t = 0 ∧ c = 0) ∨ (1 ≤ ut c t ∧ 1 ≤ c)) := by
  have hn : ¬ t < 1 := by omega
  rw [ut_up hn, cl_in (by omega) (by omega)]
  have h := up_spec (p := c * 4294967296) ht
  have hz := up_nonneg (p := c * 4294967296) (t := t) (by omega) ht
  revert h hz
  generalize up (c * 4294967296) t = u
  intro h hz
  have e : (u - 1) * t = u * t - t := by rw [Int.sub_mul]; omega
  rw [Int.mul_comm t u] at h
  refine ⟨by omega, by omega, by omega, e, ?_⟩
  by_cases c0 : u = 0
  · left; subst c0; omega
  · right
    refine ⟨by omega, ?_⟩
    by_cases c1 : 1 ≤ c
    · exact c1
    · have hu : 1 * t ≤ u * t := Int.mul_le_mul_of_nonneg_right (by omega) (by omega)
      omega

end Go.Proofs.Ytilafcplijgjjaa.FX
