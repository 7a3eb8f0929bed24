/- Baker's test, in plain words: of tasks that fit, all that is asked within any length of time fits into it. -/
import Derived.Test.YtgecandbbmljbaaAdmFacts
namespace Go.Proofs.Ytgecandbbmljbaa.AD
open Go.ChangeShapes Go.WideShapes Go.ChangeAt Go.RowKit Go.Proofs.Ytgecandbbmljbaa.AR Go.Proofs.Ytgecandbbmljbaa.TB Go.Proofs.Ytgecandbbmljbaa.TK Go.Proofs.Ytgecandbbmljbaa.FX

/-- what the jobs of the first k take within t -/
def dmd (m : Mc) (L : List Tk) (t : Int) : Nat → Int
  | 0 => 0
  | k + 1 => match L[k]? with
    | some u => dmd m L t k + t / u.p * qn m u.c 0
    | none => dmd m L t k
theorem dmd_one {m : Mc} {L : List Tk} {t : Int} {k : Nat} {u : Tk} (h : L[k]? = some u) : dmd m L t (k + 1) = dmd m L t k + t / u.p * qn m u.c 0 := by simp [dmd, h]
/-- for how long one of the first k may be held up -/
def hdu (m : Mc) (L : List Tk) (t : Int) : Nat → Int
  | 0 => 0
  | k + 1 => match L[k]? with
    | some u => bif decide (u.p ≤ t) then mx (hdu m L t k) (blk m L u.p) else hdu m L t k
    | none => hdu m L t k
theorem hdu_in {m : Mc} {L : List Tk} {t : Int} {k : Nat} {u : Tk} (h : L[k]? = some u) (g : u.p ≤ t) : hdu m L t (k + 1) = mx (hdu m L t k) (blk m L u.p) := by simp [hdu, h, g]
theorem hdu_not {m : Mc} {L : List Tk} {t : Int} {k : Nat} {u : Tk} (h : L[k]? = some u) (g : ¬ u.p ≤ t) : hdu m L t (k + 1) = hdu m L t k := by simp [hdu, h, g]

theorem quo_bd {t p : Int} (ht : 0 ≤ t) (hp : 1 ≤ p) : 0 ≤ t / p ∧ t / p ≤ t ∧ t / p * p ≤ t := by
  refine ⟨Int.ediv_nonneg ht (by omega), Int.ediv_le_self _ ht, Int.ediv_mul_le t (by omega)⟩

/-- each one's share of that time is enough for its jobs -/
theorem share {q t p : Int} (hq : 0 ≤ q ∧ q ≤ 1049088) (hp : 1 ≤ p ∧ p ≤ 16384) (ht : 0 ≤ t) : t / p * q * 4294967296 ≤ ut q p * t := by
  have e := (ut_enough (c := q) (t := p) hq.1 (by omega) hp.1 (by omega)).1
  have b := quo_bd ht hp.1
  have h1 := Int.mul_le_mul_of_nonneg_left e b.1
  have h2 := Int.mul_le_mul_of_nonneg_left b.2.2 (ut_bd q p).1
  have e1 : t / p * (q * 4294967296) = t / p * q * 4294967296 := by rw [Int.mul_assoc]
  have e2 : t / p * (ut q p * p) = ut q p * (t / p * p) := by rw [Int.mul_left_comm]
  rw [e1, e2] at h1
  exact Int.le_trans h1 h2

/-- and for a hold-up, where its period is no longer -/
theorem share_held {b t p : Int} (hb : 0 ≤ b ∧ b ≤ 1048832) (hp : 1 ≤ p ∧ p ≤ 16384) (ht : p ≤ t) : b * 4294967296 ≤ ut b p * t := by
  have e := (ut_enough (c := b) (t := p) hb.1 (by omega) hp.1 (by omega)).1
  have h2 := Int.mul_le_mul_of_nonneg_left ht (ut_bd b p).1
  omega

theorem dmd_bd {m : Mc} (hb : Bd m) {L : List Tk} (h : ∀ u ∈ L, BT u) (hp : ∀ u ∈ L, 1 ≤ u.p ∧ u.p ≤ 16384) {t : Int} (ht : 0 ≤ t ∧ t ≤ 1048575) : ∀ {k : Nat}, 0 ≤ dmd m L t k ∧ dmd m L t k ≤ k * 1100048498688
  | 0 => by simp [dmd]
  | k + 1 => by
    have ih := dmd_bd hb h hp ht (k := k)
    cases hl : L[k]? with
    | none => simp only [dmd, hl]; omega
    | some u =>
      have hm := List.mem_of_getElem? hl
      have q := qn_bd hb (lev := 0) (h u hm).c
      have d := quo_bd ht.1 (hp u hm).1
      have x := mul_bound (a := t / u.p) (b := qn m u.c 0) (A := 1048576) (B := 1049088) d.1 (by omega) q.1 q.2
      rw [dmd_one hl]; omega

theorem hdu_bd {m : Mc} (hb : Bd m) {L : List Tk} (h : ∀ u ∈ L, BT u) {t : Int} : ∀ {k : Nat}, 0 ≤ hdu m L t k ∧ hdu m L t k ≤ 1048832
  | 0 => by simp [hdu]
  | k + 1 => by
    have ih := hdu_bd hb h (t := t) (k := k)
    cases hl : L[k]? with
    | none => simp only [hdu, hl]; exact ih
    | some u =>
      by_cases g : u.p ≤ t
      · have b := blk_bd hb h (per := u.p)
        rw [hdu_in hl g]; unfold mx; split <;> omega
      · rw [hdu_not hl g]; exact ih

theorem dmd_share {m : Mc} (hb : Bd m) {L : List Tk} (h : ∀ u ∈ L, BT u) (hp : ∀ u ∈ L, 1 ≤ u.p ∧ u.p ≤ 16384) {t : Int} (ht : 0 ≤ t) : ∀ {k : Nat}, k ≤ L.length → dmd m L t k * 4294967296 ≤ sm m L (cyc L) 0 k * t
  | 0, _ => by simp [dmd, sm]
  | k + 1, hk => by
    have ih := dmd_share hb h hp ht (k := k) (by omega)
    have hl : L[k]? = some L[k] := List.getElem?_eq_getElem (by omega)
    have hm := List.mem_of_getElem? hl
    have s := share (q := qn m L[k].c 0) (qn_bd hb (h _ hm).c) (hp _ hm) ht
    rw [dmd_one hl, sm_one hl, cyc_at hl, Int.add_mul, Int.add_mul]
    omega

theorem hdu_share {m : Mc} (hb : Bd m) {L : List Tk} (h : ∀ u ∈ L, BT u) (hp : ∀ u ∈ L, 1 ≤ u.p ∧ u.p ≤ 16384) {t : Int} (ht : 0 ≤ t) : ∀ {k : Nat}, hdu m L t k * 4294967296 ≤ rsv m L L.length * t
  | 0 => by
    have := Int.mul_nonneg (rsv_ge (m := m) (L := L) (n := L.length)).1 ht
    simp only [hdu]; omega
  | k + 1 => by
    have ih := hdu_share hb h hp ht (k := k)
    cases hl : L[k]? with
    | none => simp only [hdu, hl]; exact ih
    | some u =>
      have hm := List.mem_of_getElem? hl
      by_cases g : u.p ≤ t
      · rw [hdu_in hl g]
        rcases mx_is (hdu m L t k) (blk m L u.p) with e | e
        · rw [e]; exact ih
        · rw [e]
          have s := share_held (blk_bd hb h (per := u.p)) (hp u hm) g
          have r := Int.mul_le_mul_of_nonneg_right (rsv_mem (m := m) hm) ht
          omega
      · rw [hdu_not hl g]; exact ih

/-- Baker's test -/
theorem baker {m : Mc} {L : List Tk} (hd : Gd m L) (hp : ∀ u ∈ L, 1 ≤ u.p ∧ u.p ≤ 16384) (hf : lod m L 0 ≤ 4294967296) {t : Int} (ht : 0 ≤ t) : dmd m L t L.length + hdu m L t L.length ≤ t := by
  have a := dmd_share hd.b hd.t hp ht (Nat.le_refl L.length)
  have b := hdu_share hd.b hd.t hp ht (k := L.length)
  have c := Int.mul_le_mul_of_nonneg_right hf ht
  unfold lod at c
  rw [Int.add_mul] at c
  have e : (dmd m L t L.length + hdu m L t L.length) * 4294967296 ≤ t * 4294967296 := by rw [Int.add_mul]; omega
  omega

end Go.Proofs.Ytgecandbbmljbaa.AD
