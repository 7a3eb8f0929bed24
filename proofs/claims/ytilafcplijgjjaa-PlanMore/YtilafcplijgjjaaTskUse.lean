/- What a task uses, and needs: the program's and the document's own, walked. -/
import Derived.Test.YtilafcplijgjjaaTskAt
import Derived.OwnWalk
import Derived.BigRegion
import Derived.BigQuiet
import Derived.StillTailTactics
import Derived.Deep.LoopGhost
import Derived.Deep.RegionHeld3
namespace Go.Proofs.Ytilafcplijgjjaa.TK
open Go.ChangeShapes Go.WideShapes Go.ChangeAt Go.RowKit Go.Proofs.Ytilafcplijgjjaa.AR Go.Proofs.Ytilafcplijgjjaa.TB

/-- does t use s? -/
def usB (t : Tk) (s : Int) : Bool := decide (0 ≤ s ∧ s < (t.sl : Int) ∧ 0 < t.sz.getD s.toNat 0)
theorem usB_t {t : Tk} {s : Int} : usB t s = true ↔ 0 ≤ s ∧ s < (t.sl : Int) ∧ 0 < t.sz.getD s.toNat 0 := by simp [usB]
theorem usB_f {t : Tk} {s : Int} : usB t s = false ↔ ¬ (0 ≤ s ∧ s < (t.sl : Int) ∧ 0 < t.sz.getD s.toNat 0) := by simp [usB]

/-! ### what is looked for in a list of numbers -/

/-- one of the first k does -/
def anyB (f : Int → Bool) (zs : List Int) : Nat → Bool
  | 0 => false
  | k + 1 => anyB f zs k || f (zs.getD k 0)

theorem anyB_f {f : Int → Bool} {zs : List Int} : ∀ {k : Nat}, anyB f zs k = false ↔ ∀ i, i < k → f (zs.getD i 0) = false
  | 0 => by simp [anyB]
  | k + 1 => by
    simp only [anyB, Bool.or_eq_false_iff, anyB_f (k := k)]
    constructor
    · intro h i hi
      by_cases hk : i < k
      · exact h.1 i hk
      · obtain rfl : i = k := by omega
        exact h.2
    · intro h
      exact ⟨fun i hi => h i (by omega), h k (by omega)⟩

theorem anyB_at {f : Int → Bool} {zs : List Int} {k n : Nat} (hk : k < n) (h : f (zs.getD k 0) = true) : anyB f zs n = true := by
  cases hq : anyB f zs n with
  | true => rfl
  | false => rw [anyB_f.1 hq k hk] at h; cases h

/-- a function literal that answers f, wherever it is called from w on -/
def Lit1 (w : World) (n : Nat) (cap : Value) (f : Int → Bool) : Prop :=
  ∀ w' x, Kp w w' → Calls Try.prog n #[.int .i64 x, cap] w' fun e w'' => e = .returned (.bool (f x)) ∧ Kp w' w''

end Go.Proofs.Ytilafcplijgjjaa.TK
