/- Which numbers the chapter speaks of; what the statements ask of every program: that it answers at all. -/
import Derived.Test.YtilafcplijgjjaaJobFun
namespace Go.Proofs.Ytilafcplijgjjaa.JB
open Go.ChangeShapes Go.WideShapes Go.ChangeAt Go.RowKit Go.Proofs.Ytilafcplijgjjaa.AR Go.Proofs.Ytilafcplijgjjaa.TB Go.Proofs.Ytilafcplijgjjaa.TK

/-- the first k are near -/
def nrB (zs : List Int) : Nat → Bool
  | 0 => true
  | k + 1 => nrB zs k && inB (zs.getD k 0) (-1073741824) 1073741824

theorem nrB_f {zs : List Int} {k : Nat} (h : inB (zs.getD k 0) (-1073741824) 1073741824 = false) : ∀ {n : Nat}, k < n → nrB zs n = false
  | n + 1, hn => by
    by_cases e : k = n
    · subst e; simp only [nrB, h, Bool.and_false]
    · have := nrB_f h (n := n) (by omega)
      simp only [nrB, this, Bool.false_and]

/-- a block of numbers -/
theorem nums_at {W : World} {g : Nat} {ty : TypeId} {zs : List Int} (h : W.heap[g]? = some (.cells (zs.map (Value.int .i64)).toArray ty (0, 0))) : ∀ i, i < zs.length → W.cell? ⟨g, 0 + i, none⟩ = some (.int .i64 (zs.getD i 0)) := by
  intro i hi
  simp [World.cell?, h, List.getD_eq_getElem?_getD, List.getElem?_eq_getElem hi]

end Go.Proofs.Ytilafcplijgjjaa.JB
