/- Which semaphores count, and for how many quanta jobs may be held up: walked. -/
import Derived.Test.YtilafcplijgjjaaSlkFun
import Derived.Test.YtilafcplijgjjaaTskCel
namespace Go.Proofs.Ytilafcplijgjjaa.SK
open Go.ChangeShapes Go.WideShapes Go.ChangeAt Go.RowKit Go.Proofs.Ytilafcplijgjjaa.AR Go.Proofs.Ytilafcplijgjjaa.TB Go.Proofs.Ytilafcplijgjjaa.TK Go.Proofs.Ytilafcplijgjjaa.JB Go.Proofs.Ytilafcplijgjjaa.FX Go.Proofs.Ytilafcplijgjjaa.AD
open Go.Proofs.Ytilafcplijgjjaa.LK (Hd atH HsAt C3)

theorem cell_of {W : World} {g q : Nat} {xs : Array Value} {ty : TypeId} {fr : Nat × Nat} {v : Value} (h : W.heap[g]? = some (.cells xs ty fr)) (e : xs[q]? = some v) : W.cell? ⟨g, q, none⟩ = some v := by simp [World.cell?, h, e]

theorem tsksB_f {v : Vw} {h : Hd} {a : Int} {k : Nat} (h1 : tsksB v h a k = false) (h2 : tskB v h a k = false) : tsksB v h a (k + 1) = false := by simp [tsksB, h1, h2]
theorem tsksB_t {v : Vw} {h : Hd} {a : Int} {k : Nat} (h2 : tskB v h a k = true) : ∀ {n : Nat}, k < n → tsksB v h a n = true
  | n + 1, hn => by
    by_cases e : k = n
    · subst e; simp [tsksB, h2]
    · have := tsksB_t h2 (n := n) (by omega)
      simp [tsksB, this]
theorem cntB_t {v : Vw} {h : Hd} {a : Int} {k : Nat} (h1 : lateB v h a = true) (h2 : tskB v h a k = true) (hk : k < v.tl) : cntB v h a = true := by simp [cntB, h1, tsksB_t h2 hk]

end Go.Proofs.Ytilafcplijgjjaa.SK
