/- What the guards of the statements tell. -/
import Derived.Test.YtnjakfkafecmlaaDevRight
import Derived.Test.YtnjakfkafecmlaaDevAns
namespace Go.Proofs.Ytnjakfkafecmlaa.DV
open Go.ChangeShapes Go.WideShapes Go.ChangeAt Go.RowKit Go.Proofs.Ytnjakfkafecmlaa.AR Go.Proofs.Ytnjakfkafecmlaa.TB

theorem right_facts {on off down up downE upE even f u : Int} (h : (awayB on off down up downE upE even && rxB down up f u) = true) :
    (0 ≤ on ∧ on ≤ 65536) ∧ (0 ≤ off ∧ off ≤ 65536) ∧ (0 ≤ down ∧ down ≤ 256) ∧ (0 ≤ up ∧ up ≤ 256) ∧ (0 ≤ downE ∧ downE ≤ 65536) ∧ (0 ≤ upE ∧ upE ≤ 65536) ∧ (0 ≤ even ∧ even ≤ 16384) ∧ Mo f ∧ Mo u ∧ ((f = 0 ∧ u = 0) ∨ f + down ≤ u - up) := by
  rw [Bool.and_eq_true] at h
  obtain ⟨h1, h2, h3, h4, h5, h6, hE, _⟩ := awayB_t.1 h.1
  obtain ⟨g1, g2, g3⟩ := rxB_t.1 h.2
  unfold Mo
  refine ⟨h1, by omega, h3, h4, h5, h6, by omega, by omega, by omega, by omega⟩

theorem mo_of {n : Int} (h : moB n = true) : Mo n := by
  have := moB_t.1 h
  unfold Mo
  omega

end Go.Proofs.Ytnjakfkafecmlaa.DV
