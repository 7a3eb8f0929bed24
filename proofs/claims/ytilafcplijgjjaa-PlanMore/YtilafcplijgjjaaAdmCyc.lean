/- The list of each task's cycles, in memory of its own. -/
import Derived.Test.YtilafcplijgjjaaAdmPlain
import Derived.Test.YtilafcplijgjjaaTskRow
namespace Go.Proofs.Ytilafcplijgjjaa.AD
open Go.ChangeShapes Go.WideShapes Go.ChangeAt Go.RowKit Go.Proofs.Ytilafcplijgjjaa.AR Go.Proofs.Ytilafcplijgjjaa.TB Go.Proofs.Ytilafcplijgjjaa.TK Go.Proofs.Ytilafcplijgjjaa.FX

/-- the first k are there already -/
structure Fil (w : World) (g k : Nat) (L : List Tk) (len : Nat) : Prop where
  blk : ∃ cu : List Value, w.heap[g]? = some (.cells cu.toArray 3 (0, 0)) ∧ cu.length = len ∧ ∀ i, i < k → cu[i]? = some (.int .i64 ((cyc L).getD i 0))

theorem Fil.kp {w w' : World} {g k len : Nat} {L : List Tk} (h : Fil w g k L len) (q : Kp w w') : Fil w' g k L len := by
  obtain ⟨cu, h1, h2, h3⟩ := h.blk
  exact ⟨cu, kp_block h1 q, h2, h3⟩

theorem Fil.one {w : World} {g k len : Nat} {L : List Tk} (h : Fil w g k L len) {i : Nat} (hi : i < len) : g < w.heap.size ∧ w.frozen? ⟨g, i, none⟩ = false ∧ ∃ v, w.cell? ⟨g, i, none⟩ = some v := by
  obtain ⟨cu, h1, h2, h3⟩ := h.blk
  refine ⟨lt_blk h1, by simp [World.frozen?, h1], ?_⟩
  have hil : i < cu.length := by omega
  exact ⟨cu[i], by simp [World.cell?, h1, hil]⟩

theorem Fil.set {w : World} {g k len : Nat} {L : List Tk} (h : Fil w g k L len) {t : Tk} (ht : L[k]? = some t) (hk : k < len) : Fil (w.setCell ⟨g, k, none⟩ (.int .i64 t.c)) g (k + 1) L len := by
  obtain ⟨cu, h1, h2, h3⟩ := h.blk
  refine ⟨cu.set k (.int .i64 t.c), ?_, by simp [h2], fun i hi => ?_⟩
  · rw [heap_setCell_same w g k _ _ _ h1]
    simp
  · by_cases e : i = k
    · subst e
      rw [cyc_at ht]
      have : i < cu.length := by omega
      simp [this]
    · have hne : ¬ k = i := fun q => e q.symm
      rw [List.getElem?_set]
      simp only [hne, if_false]
      exact h3 i (by omega)

theorem Fil.row {w : World} {g len : Nat} {L : List Tk} (h : Fil w g len L len) (hl : L.length = len) (hc : ∀ t ∈ L, BT t) (hb : len ≤ 64) : NAt w (some ⟨g, 0, none⟩) len (cyc L) := by
  obtain ⟨cu, h1, h2, h3⟩ := h.blk
  refine ⟨⟨by simp [cyc, hl], ?_, .inr ⟨g, 0, rfl, lt_blk h1, fun i hi => ?_⟩⟩, by omega⟩
  · intro z hz
    obtain ⟨t, ht, rfl⟩ := List.mem_map.1 hz
    have := (hc t ht).c
    unfold I64; omega
  · have := h3 i hi
    have hil : i < cu.length := by omega
    simp only [World.cell?, h1, Nat.zero_add]
    simpa using this

end Go.Proofs.Ytilafcplijgjjaa.AD
