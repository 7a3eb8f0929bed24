/- Which level is chosen: in plain words. -/
import Derived.Test.YtlhacdbeadchjaaGovAt
namespace Go.Proofs.Ytlhacdbeadchjaa.GV
open Go.ChangeShapes Go.WideShapes Go.ChangeAt Go.RowKit Go.Proofs.Ytlhacdbeadchjaa.AR Go.Proofs.Ytlhacdbeadchjaa.TB Go.Proofs.Ytlhacdbeadchjaa.FX

def mx (a b : Int) : Int := if a < b then b else a
theorem mx_lt {a b : Int} (h : a < b) : mx a b = b := by unfold mx; rw [if_pos h]
theorem mx_ge {a b : Int} (h : ¬ a < b) : mx a b = a := by unfold mx; rw [if_neg h]
def mn (a b : Int) : Int := if b < a then b else a
theorem mn_lt {a b : Int} (h : b < a) : mn a b = b := by unfold mn; rw [if_pos h]
theorem mn_ge {a b : Int} (h : ¬ b < a) : mn a b = a := by unfold mn; rw [if_neg h]

/-- so many quanta, in parts -/
def wh (n : Int) : Int := cl n (-1073741824) 1073741824 * 4294967296
theorem wh_mono {a b : Int} (h : a ≤ b) : wh a ≤ wh b := by
  have := cl_mono (lo := -1073741824) (hi := 1073741824) (by omega) h
  unfold wh; omega

/-- how many quanta more than at the first level -/
def exI (m : Mc) (lf lv : Int) (n : Nat) : Int := lf * (fd m.rL n 0 - fd m.rL 0 0) + (if (n : Int) = lv then 0 else m.sw)
theorem ex_eq {m : Mc} {lf lv : Int} {n : Nat} (h : (n : Int) = lv) : exI m lf lv n = lf * (fd m.rL n 0 - fd m.rL 0 0) := by unfold exI; rw [if_pos h]; omega
theorem ex_ne {m : Mc} {lf lv : Int} {n : Nat} (h : ¬ (n : Int) = lv) : exI m lf lv n = lf * (fd m.rL n 0 - fd m.rL 0 0) + m.sw := by unfold exI; rw [if_neg h]

theorem ex_bd {m : Mc} (hb : Bd m) {lf : Int} (hl : 0 ≤ lf ∧ lf ≤ 8192) {n : Nat} (hn : n < m.lL) :
    0 ≤ lf * (fd m.rL n 0 - fd m.rL 0 0) ∧ lf * (fd m.rL n 0 - fd m.rL 0 0) ≤ 8192 * 256 := by
  have h1 := hb.rise hn
  have h2 := hb.lev n hn
  have h3 := hb.lev 0 (by omega)
  exact mul_bound (a := lf) (b := fd m.rL n 0 - fd m.rL 0 0) (A := 8192) (B := 256) hl.1 hl.2 (by omega) (by omega)

theorem ex_mono {m : Mc} (hb : Bd m) {lf lf' lv : Int} (h : lf' ≤ lf) {n : Nat} (hn : n < m.lL) : exI m lf' lv n ≤ exI m lf lv n := by
  have h1 := hb.rise hn
  have := Int.mul_le_mul_of_nonneg_right h (show 0 ≤ fd m.rL n 0 - fd m.rL 0 0 by omega)
  unfold exI; omega

/-- is there time for it? -/
def fitB (m : Mc) (lf sl lv : Int) (n : Nat) : Bool := decide (wh (exI m lf lv n) ≤ sl)
/-- the greatest number of the first k for which there is time -/
def best (m : Mc) (lf sl lv : Int) : Nat → Nat
  | 0 => 0
  | k + 1 => bif fitB m lf sl lv (k + 1) then k + 1 else best m lf sl lv k

theorem best_t {m : Mc} {lf sl lv : Int} {k : Nat} (h : wh (exI m lf lv (k + 1)) ≤ sl) : best m lf sl lv (k + 1) = k + 1 := by
  have : fitB m lf sl lv (k + 1) = true := decide_eq_true h
  simp [best, this]
theorem best_f {m : Mc} {lf sl lv : Int} {k : Nat} (h : ¬ wh (exI m lf lv (k + 1)) ≤ sl) : best m lf sl lv (k + 1) = best m lf sl lv k := by
  have : fitB m lf sl lv (k + 1) = false := decide_eq_false h
  simp [best, this]

theorem best_le {m : Mc} {lf sl lv : Int} : ∀ k, best m lf sl lv k ≤ k
  | 0 => Nat.le_refl _
  | k + 1 => by
    by_cases h : wh (exI m lf lv (k + 1)) ≤ sl
    · rw [best_t h]; omega
    · rw [best_f h]; have := best_le (m := m) (lf := lf) (sl := sl) (lv := lv) k; omega

theorem best_fit {m : Mc} {lf sl lv : Int} : ∀ {k n : Nat}, best m lf sl lv k = n → n = 0 ∨ wh (exI m lf lv n) ≤ sl
  | 0, n, h => .inl (by simpa [best] using h.symm)
  | k + 1, n, h => by
    by_cases g : wh (exI m lf lv (k + 1)) ≤ sl
    · rw [best_t g] at h; subst h; exact .inr g
    · rw [best_f g] at h; exact best_fit h

theorem best_up {m : Mc} {lf sl lv lf' sl' : Int} : ∀ {k : Nat}, (∀ n, n ≤ k → wh (exI m lf lv n) ≤ sl → wh (exI m lf' lv n) ≤ sl') → best m lf sl lv k ≤ best m lf' sl' lv k
  | 0, _ => Nat.le_refl _
  | k + 1, h => by
    by_cases g : wh (exI m lf lv (k + 1)) ≤ sl
    · rw [best_t g, best_t (h _ (Nat.le_refl _) g)]; exact Nat.le_refl _
    · rw [best_f g]
      have ih := best_up (k := k) (fun n hn => h n (by omega))
      by_cases g' : wh (exI m lf' lv (k + 1)) ≤ sl'
      · rw [best_t g']; have := best_le (m := m) (lf := lf) (sl := sl) (lv := lv) k; omega
      · rw [best_f g']; exact ih

theorem best_far {m : Mc} {lf sl lv : Int} : ∀ {j k : Nat}, k ≤ j → best m lf sl lv k ≤ best m lf sl lv j
  | 0, k, h => by obtain rfl : k = 0 := by omega
                  exact Nat.le_refl _
  | j + 1, k, h => by
    by_cases e : k = j + 1
    · subst e; exact Nat.le_refl _
    · by_cases g : wh (exI m lf lv (j + 1)) ≤ sl
      · rw [best_t g]; have := best_le (m := m) (lf := lf) (sl := sl) (lv := lv) k; omega
      · rw [best_f g]; exact best_far (by omega)

/-- the slowest level that a policy lets be -/
def lmI (m : Mc) (pol st : Int) : Int := if pol = 1 ∨ pol = 3 then mn (mx st 0) m.crit else if pol = 2 then m.crit else 0
/-- the same, where no care is taken of what lies below 0 -/
def spI (m : Mc) (pol st : Int) : Int := if pol = 1 ∨ pol = 3 then mn st m.crit else if pol = 2 then m.crit else 0
/-- as a number -/
def lmN (m : Mc) (pol st : Int) : Nat := (lmI m pol st).toNat

theorem lm_s {m : Mc} {pol st : Int} (h : pol = 1 ∨ pol = 3) : lmI m pol st = mn (mx st 0) m.crit := by unfold lmI; rw [if_pos h]
theorem lm_l {m : Mc} {pol st : Int} (h : pol = 2) : lmI m pol st = m.crit := by unfold lmI; rw [if_neg (by omega), if_pos h]
theorem lm_o {m : Mc} {pol st : Int} (h1 : ¬ pol = 1) (h2 : ¬ pol = 2) (h3 : ¬ pol = 3) : lmI m pol st = 0 := by unfold lmI; rw [if_neg (by omega), if_neg h2]
theorem sp_s {m : Mc} {pol st : Int} (h : pol = 1 ∨ pol = 3) : spI m pol st = mn st m.crit := by unfold spI; rw [if_pos h]
theorem sp_l {m : Mc} {pol st : Int} (h : pol = 2) : spI m pol st = m.crit := by unfold spI; rw [if_neg (by omega), if_pos h]
theorem sp_o {m : Mc} {pol st : Int} (h1 : ¬ pol = 1) (h2 : ¬ pol = 2) (h3 : ¬ pol = 3) : spI m pol st = 0 := by unfold spI; rw [if_neg (by omega), if_neg h2]

theorem lm_bd {m : Mc} (h : 0 ≤ m.crit) (pol st : Int) : 0 ≤ lmI m pol st ∧ lmI m pol st ≤ m.crit := by
  unfold lmI mn mx
  repeat' split
  all_goals omega
theorem sp_lm {m : Mc} (h : 0 ≤ m.crit) (pol st : Int) : (spI m pol st).toNat = lmN m pol st ∧ spI m pol st ≤ m.crit := by
  unfold lmN lmI spI mn mx
  repeat' split
  all_goals omega
theorem lmN_le {m : Mc} (h : 0 ≤ m.crit) (pol st : Int) : ((lmN m pol st : Nat) : Int) = lmI m pol st ∧ (lmN m pol st : Int) ≤ m.crit := by
  have := lm_bd h pol st
  unfold lmN; omega

/-- the level that is chosen -/
def chI (m : Mc) (pol st lf sl lv : Int) : Nat := best m lf sl lv (lmN m pol st)

theorem ch_le {m : Mc} (h : 0 ≤ m.crit) (pol st lf sl lv : Int) : (chI m pol st lf sl lv : Int) ≤ m.crit := by
  have h1 := lmN_le h pol st
  have h2 := best_le (m := m) (lf := lf) (sl := sl) (lv := lv) (lmN m pol st)
  unfold chI; omega

theorem ch_time {m : Mc} (pol st lf sl lv : Int) : chI m pol st lf sl lv = 0 ∨ wh (exI m lf lv (chI m pol st lf sl lv)) ≤ sl := best_fit rfl

theorem ch_more {m : Mc} (pol st lf lv : Int) {sl sl' : Int} (h : sl ≤ sl') : chI m pol st lf sl lv ≤ chI m pol st lf sl' lv :=
  best_up fun _ _ q => Int.le_trans q h

theorem ch_less {m : Mc} (hb : Bd m) (pol st sl lv : Int) {lf lf' : Int} (h : lf' ≤ lf) : chI m pol st lf sl lv ≤ chI m pol st lf' sl lv :=
  best_up fun n hn q => Int.le_trans (wh_mono (ex_mono hb h (by have h1 := lmN_le hb.cr.1 pol st; have h2 := hb.cr.2; omega))) q

theorem ch_full (m : Mc) (st lf sl lv : Int) : chI m 0 st lf sl lv = 0 := by
  unfold chI lmN
  rw [lm_o (by omega) (by omega) (by omega)]
  rfl
theorem ch_same (m : Mc) (st lf sl lv : Int) : chI m 3 st lf sl lv = chI m 1 st lf sl lv := by
  unfold chI lmN
  rw [lm_s (.inl rfl), lm_s (.inr rfl)]
theorem ch_static {m : Mc} (h : 0 ≤ m.crit) (st lf sl lv : Int) : (chI m 1 st lf sl lv : Int) ≤ mx st 0 := by
  have h1 := lmN_le h 1 st
  have h2 := best_le (m := m) (lf := lf) (sl := sl) (lv := lv) (lmN m 1 st)
  have h3 : lmI m 1 st ≤ mx st 0 := by rw [lm_s (.inl rfl)]; unfold mn; split <;> omega
  unfold chI; omega
theorem ch_lazy {m : Mc} (h : 0 ≤ m.crit) (st lf sl lv : Int) : chI m 1 st lf sl lv ≤ chI m 2 st lf sl lv :=
  best_far (by
    have h1 := lmN_le h 1 st
    have h2 := lmN_le h 2 st
    rw [lm_l rfl] at h2
    omega)

end Go.Proofs.Ytlhacdbeadchjaa.GV
