/- The document's own: for how many quanta jobs may be held up, walked. -/
import Derived.Test.YtilafcplijgjjaaSlkRef
namespace Go.Proofs.Ytilafcplijgjjaa.SK
open Go.ChangeShapes Go.WideShapes Go.ChangeAt Go.RowKit Go.Proofs.Ytilafcplijgjjaa.AR Go.Proofs.Ytilafcplijgjjaa.TB Go.Proofs.Ytilafcplijgjjaa.TK Go.Proofs.Ytilafcplijgjjaa.JB Go.Proofs.Ytilafcplijgjjaa.FX Go.Proofs.Ytilafcplijgjjaa.AD
open Go.Proofs.Ytilafcplijgjjaa.LK (Hd atH HsAt C3)

theorem skp_drewN (w : World) (n : Nat) : Kp w (w.drewN n) := LK.Kp.tb (LK.Step.drewN (LK.Step.refl (fun _ => False) w) n)

/-- what one finds is the only one -/
theorem only_one {v : Vw} (g : VG v) {x : Int} {j : Jb} (h : jof v.J x = some j) {y : Jb} (hy : y ∈ v.J) (e : y.t = x) : y = j := by
  obtain ⟨h1, h2⟩ := jof_mem h
  obtain ⟨i, hi, ei⟩ := List.mem_iff_getElem.1 h1
  obtain ⟨k, hk, ek⟩ := List.mem_iff_getElem.1 hy
  have := g.jo i k j y (by rw [List.getElem?_eq_getElem hi, ei]) (by rw [List.getElem?_eq_getElem hk, ek]) (h2.trans e.symm)
  subst this
  rw [← ei, ← ek]
theorem late_one {v : Vw} (g : VG v) {h : Hd} {a : Int} {j : Jb} (hj : jof v.J h.t = some j) : lateB v h a = decide (a < j.d) := by
  obtain ⟨h1, h2⟩ := jof_mem hj
  unfold lateB
  by_cases hd : a < j.d
  · rw [decide_eq_true hd]
    exact List.any_eq_true.2 ⟨j, h1, by simp [h2, hd]⟩
  · rw [decide_eq_false hd, List.any_eq_false]
    intro y hy
    by_cases e : y.t = h.t
    · have := only_one g hj hy e
      subst this
      simp [hd]
    · simp [e]
theorem due_one {v : Vw} (g : VG v) {k a : Int} {j : Jb} (hj : jof v.J k = some j) : dueB v k a = decide (j.d ≤ a) := by
  obtain ⟨h1, h2⟩ := jof_mem hj
  unfold dueB
  by_cases hd : j.d ≤ a
  · rw [decide_eq_true hd]
    exact List.any_eq_true.2 ⟨j, h1, by simp [h2, hd]⟩
  · rw [decide_eq_false hd, List.any_eq_false]
    intro y hy
    by_cases e : y.t = k
    · have := only_one g hj hy e
      subst this
      simp [hd]
    · simp [e]
theorem due_none {v : Vw} {k a : Int} (hj : jof v.J k = none) : dueB v k a = false := by
  have h := jof_not hj
  unfold dueB
  rw [List.any_eq_false]
  intro y hy
  simp [h y hy]
/-- a task's job, whether there is one, and what that says -/
theorem job_ways {v : Vw} (g : VG v) (k a : Int) : ∃ (j : Jb) (s : Bool), (jof v.J k).getD zJ = j ∧ (jof v.J k).isSome = s ∧ dueB v k a = (s && decide (j.d ≤ a)) := by
  cases h : jof v.J k with
  | none => exact ⟨zJ, false, rfl, rfl, by rw [due_none h]; rfl⟩
  | some j => exact ⟨j, true, rfl, rfl, by rw [due_one g h]; rfl⟩

theorem mx_mul {a b s : Int} (h : 1 ≤ s) : mx (a * s) (b * s) = mx a b * s := by
  by_cases q : a < b
  · rw [mx_lt q, mx_lt (Int.mul_lt_mul_of_pos_right q (by omega))]
  · by_cases e : a = b
    · subst e; rw [mx_ge (by omega), mx_ge (by omega)]
    · rw [mx_ge q, mx_ge (by have := Int.mul_lt_mul_of_pos_right (show b < a by omega) (show 0 < s by omega); omega)]
theorem mx_twice (a b : Int) : mx (mx a b) b = mx a b := by
  by_cases q : a < b
  · rw [mx_lt q, mx_ge (by omega)]
  · rw [mx_ge q, mx_ge q]
/-- what the document's inner loop has -/
def inI (v : Vw) (h : Hd) (a m0 : Int) (k : Nat) : Int := bif tsksB v h a k then mx m0 (h.l * slw v.m) else m0
theorem inI_not {v : Vw} {h : Hd} {a m0 : Int} {k : Nat} (q : tskB v h a k = false) : inI v h a m0 (k + 1) = inI v h a m0 k := by simp [inI, tsksB, q]
theorem inI_more {v : Vw} {h : Hd} {a m0 : Int} {k : Nat} (q : tskB v h a k = true) : inI v h a m0 (k + 1) = mx (inI v h a m0 k) (h.l * slw v.m) := by
  cases e : tsksB v h a k with
  | true => simp only [inI, tsksB, q, e, Bool.or_true, cond_true, mx_twice]
  | false => simp only [inI, tsksB, q, e, Bool.or_true, cond_true, cond_false]
theorem lng_all {v : Vw} {a : Int} (g : VG v) {k : Nat} (q : lateB v (atH v.H k) a = true) : lng v a (k + 1) * slw v.m = inI v (atH v.H k) a (lng v a k * slw v.m) v.tl := by
  have sb := slw_bd g.b
  have hc : cntB v (atH v.H k) a = tsksB v (atH v.H k) a v.tl := by simp [cntB, q]
  cases e : tsksB v (atH v.H k) a v.tl with
  | false => rw [lng_not (by rw [hc, e])]; simp [inI, e]
  | true =>
    simp only [inI, e, cond_true]
    rw [mx_mul sb.1]
    by_cases hl : lng v a k < (atH v.H k).l
    · rw [lng_turn hl (by rw [hc, e]), mx_lt hl]
    · rw [lng_stay hl, mx_ge hl]
theorem lng_none {v : Vw} {a : Int} {k : Nat} (q : lateB v (atH v.H k) a = false) : lng v a (k + 1) = lng v a k := lng_not (by simp [cntB, q])

/-- what is held in a block -/
theorem hd_box (w : World) (h : Hd) : ∃ V, Hid (V = w.alloc (.cells #[.int .i64 h.t, .int .i64 h.s, .int .i64 h.l] 50)) ∧ Kp w V ∧ ∀ W, Kp V W → W.cell? ⟨w.heap.size, 0, none⟩ = some (.int .i64 h.t) ∧ W.cell? ⟨w.heap.size, 1, none⟩ = some (.int .i64 h.s) ∧ W.cell? ⟨w.heap.size, 2, none⟩ = some (.int .i64 h.l) := by
  refine ⟨_, rfl, (Kp.refl _).alloc _, fun W q => ?_⟩
  have h := kp_block (heap_alloc_at w _) q
  exact ⟨cell_of h rfl, cell_of h rfl, cell_of h rfl⟩

end Go.Proofs.Ytilafcplijgjjaa.SK
