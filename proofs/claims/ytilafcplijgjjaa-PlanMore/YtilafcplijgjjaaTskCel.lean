/- A semaphore's ceiling: the program's and the document's own, walked. -/
import Derived.Test.YtilafcplijgjjaaTskFnd
namespace Go.Proofs.Ytilafcplijgjjaa.TK
open Go.ChangeShapes Go.WideShapes Go.ChangeAt Go.RowKit Go.Proofs.Ytilafcplijgjjaa.AR Go.Proofs.Ytilafcplijgjjaa.TB

/-- the ceiling of the first k -/
def cel (L : List Tk) (s : Int) : Nat → Int
  | 0 => 1099511627776
  | k + 1 => match L[k]? with
    | some t => bif usB t s then (bif decide (t.p < cel L s k) then t.p else cel L s k) else cel L s k
    | none => cel L s k

theorem cel_not {L : List Tk} {s : Int} {k : Nat} {t : Tk} (h : L[k]? = some t) (hu : usB t s = false) : cel L s (k + 1) = cel L s k := by simp [cel, h, hu]
theorem cel_less {L : List Tk} {s : Int} {k : Nat} {t : Tk} (h : L[k]? = some t) (hu : usB t s = true) (hp : t.p < cel L s k) : cel L s (k + 1) = t.p := by simp [cel, h, hu, hp]
theorem cel_stay {L : List Tk} {s : Int} {k : Nat} {t : Tk} (h : L[k]? = some t) (hp : ¬ t.p < cel L s k) : cel L s (k + 1) = cel L s k := by
  cases hu : usB t s <;> simp [cel, h, hu, hp]

/-- it does not rise -/
theorem cel_fall {L : List Tk} {s : Int} (k : Nat) : cel L s (k + 1) ≤ cel L s k := by
  cases h : L[k]? with
  | none => simp [cel, h]
  | some t =>
    cases hu : usB t s with
    | false => rw [cel_not h hu]; exact Int.le_refl _
    | true =>
      by_cases hp : t.p < cel L s k
      · rw [cel_less h hu hp]; omega
      · rw [cel_stay h hp]; exact Int.le_refl _

/-- a function literal over tasks that answers f, wherever it is called from w on -/
def LitT (w : World) (n : Nat) (cap : Value) (f : Tk → Bool) : Prop :=
  ∀ w' t, Kp w w' → TAt w' t → Calls Try.prog n #[t.v, cap] w' fun e w'' => e = .returned (.bool (f t)) ∧ Kp w' w''

end Go.Proofs.Ytilafcplijgjjaa.TK
