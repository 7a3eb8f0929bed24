/- A list of tasks as an argument, with its room. -/
import Derived.Test.YtgecandbbmljbaaTskAt
namespace Go.Proofs.Ytgecandbbmljbaa.TK
open Go.ChangeShapes Go.WideShapes Go.ChangeAt Go.RowKit Go.Deep Go.Proofs.Ytgecandbbmljbaa.AR Go.Proofs.Ytgecandbbmljbaa.TB

section
variable {H : Type} {enc : TypeId × Value → H} {W : World} {base : Nat} {spare : Nat → Bool} {held : Bool}

theorem open_tksc {r : Reach} {b0 : Nat} {v : Value} {d : DataW H} {p : List MemPlace} (hv : Value.okWide Try.prog W r b0 31 v) (h : DataW.Trod enc Try.prog W base spare held 31 v d p) (hz : ∀ q ∈ d.weights Try.prog 31, q ≤ reachBytes) :
    ∃ ao len cap L, v = .slice ao len cap ∧ LAt W ao len L ∧ len * 64 ≤ 140737488351232 ∧ len ≤ cap ∧ cap ≤ 9223372036854775807 := by
  obtain ⟨z, y, x, rfl⟩ := okWide_slice Try.underlying31 hv
  obtain ⟨fuel, hf⟩ := h
  rcases open_slice Try.underlying31 hf with ⟨hcs, hd⟩ | ⟨a, len, cap, m, n, D, Pl, hcs, hb, hl, hm, hmm, hd, hx⟩
  · simp only [Value.cells, List.cons.injEq, and_true] at hcs
    exact ⟨_, _, _, [], hcs, ⟨rfl, fun t ht => by simp at ht, .inl rfl, by omega⟩, by omega, by omega, by omega⟩
  · simp only [Value.cells, List.cons.injEq, and_true] at hcs
    simp only [Prod.mk.injEq] at hd
    have hlm : len ≤ m := by rw [hmm]; split <;> omega
    have hw : ∀ i, i < len → ∀ q ∈ (D i).weights Try.prog 29, q ≤ reachBytes := by
      intro i hi q hq
      refine hz q ?_
      rw [hd.1]
      simp only [DataW.weights, Try.underlying31, List.mem_cons, List.mem_append]
      exact .inr (.inl (weights_all (List.mem_map.2 ⟨i, by simpa using hi, rfl⟩) q hq))
    have hby : len * 64 ≤ 140737488351232 := by
      have := hz ((len + (m - len)) * 64) (by rw [hd.1]; simp [DataW.weights, Try.underlying31, bytes_tk])
      simp only [reachBytes] at this
      have : len * 64 ≤ (len + (m - len)) * 64 := Nat.mul_le_mul_right _ (Nat.le_add_right _ _)
      omega
    have each : ∀ i, i < len → ∃ t : Tk, TAt W t ∧ ∀ j, j < 4 → W.cell? (a.add (i * 4 + j)) = some (t.cell j) := by
      intro i hi
      obtain ⟨cs', h1, h2⟩ := hx i (by omega)
      rw [cells_tk] at h1
      obtain ⟨_, hlen, hcell⟩ := World.cells?_some h1
      obtain ⟨t, rfl, ht⟩ := open_tcells h2 (hw i hi)
      refine ⟨t, ht, fun j hj => ?_⟩
      have := hcell j hj
      rw [add_add] at this
      rw [this]
      match j, hj with
      | 0, _ => rfl
      | 1, _ => rfl
      | 2, _ => rfl
      | 3, _ => rfl
    haveI : Inhabited Tk := ⟨⟨0, 0, none, 0, 0, [], none, 0, 0, []⟩⟩
    obtain ⟨f, hf'⟩ := choose_lt each
    refine ⟨some a, len, cap, (List.range len).map f, hcs, ⟨by simp, ?_, ?_, by omega⟩, hby, hl, by unfold maxLen at hm; omega⟩
    · intro t ht
      simp only [List.mem_map, List.mem_range] at ht
      obtain ⟨i, hi, rfl⟩ := ht
      exact (hf' i hi).1
    · by_cases hz0 : len = 0
      · exact .inl hz0
      · right
        obtain ⟨b, off, spot⟩ := a
        have hc := (hf' 0 (by omega)).2 0 (by omega)
        have hs : spot = none := by
          have := World.cell?_spot hc
          rw [show ((⟨b, off, spot⟩ : Addr).add (0 * 4 + 0)).spot = (⟨b, off, spot⟩ : Addr).spot from by simp [Addr.add]] at this
          exact this
        subst hs
        refine ⟨b, off, rfl, World.block_lt_of_cell? W _ (by simpa [Addr.add] using hc), fun i j t hi hj => ?_⟩
        have hil : i < len := by
          have := (List.getElem?_eq_some_iff.1 hi).1
          simpa using this
        have ht : t = f i := by simp [hil] at hi; exact hi.symm
        subst ht
        have := (hf' i hil).2 j hj
        rw [add_plain] at this
        rw [show off + i * 4 + j = off + (i * 4 + j) from by omega, this]


end

end Go.Proofs.Ytgecandbbmljbaa.TK
