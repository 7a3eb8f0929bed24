/- What Check answers. -/
import Derived.Test.YtbhgjaaaffjjeaaSlow
namespace Go.Proofs.Ytbhgjaaaffjjeaa.TB
open Go.ChangeShapes Go.WideShapes Go.ChangeAt Go.RowKit Go.Proofs.Ytbhgjaaaffjjeaa.AR

/-- OK, or ErrTable -/
def erc : Bool → Int
  | true => 0
  | false => 2

/-- what lies in memory of a machine -/
structure Mach (w : World) (aL : Option Addr) (lL : Nat) (rL : List (List Int)) (aS : Option Addr) (lS : Nat) (rS : List (List Int)) (aD : Option Addr) (lD : Nat) (rD : List (List Int)) : Prop where
  lev : RecAt w 2 aL lL rL
  slp : RecAt w 6 aS lS rS
  dvs : RecAt w 7 aD lD rD
  nL : lL ≤ 9223372036854775807
  nS : lS ≤ 9223372036854775807
  nD : lD ≤ 9223372036854775807

theorem Mach.kept {w w' : World} {aL : Option Addr} {lL : Nat} {rL : List (List Int)} {aS : Option Addr} {lS : Nat} {rS : List (List Int)} {aD : Option Addr} {lD : Nat} {rD : List (List Int)}
    (h : Mach w aL lL rL aS lS rS aD lD rD) (k : Kp w w') : Mach w' aL lL rL aS lS rS aD lD rD := ⟨RecAt.kept h.lev k, RecAt.kept h.slp k, RecAt.kept h.dvs k, h.nL, h.nS, h.nD⟩

/-- a machine's box stays as it is -/
theorem box_cells {w w1 : World} {c0 c1 c2 c3 c4 c5 c6 c7 c8 : Value} (k : Kp (w.alloc (.cells #[c0, c1, c2, c3, c4, c5, c6, c7, c8] 26)) w1) :
    w1.cell? ⟨w.heap.size, 0, none⟩ = some c0 ∧ w1.cell? ⟨w.heap.size, 1, none⟩ = some c1 ∧ w1.cell? ⟨w.heap.size, 2, none⟩ = some c2 ∧ w1.cell? ⟨w.heap.size, 3, none⟩ = some c3 ∧ w1.cell? ⟨w.heap.size, 4, none⟩ = some c4 ∧
      w1.cell? ⟨w.heap.size, 5, none⟩ = some c5 ∧ w1.cell? ⟨w.heap.size, 6, none⟩ = some c6 ∧ w1.cell? ⟨w.heap.size, 7, none⟩ = some c7 ∧ w1.cell? ⟨w.heap.size, 8, none⟩ = some c8 := by
  have h : ∀ i, w1.cell? ⟨w.heap.size, i, none⟩ = (w.alloc (.cells #[c0, c1, c2, c3, c4, c5, c6, c7, c8] 26)).cell? ⟨w.heap.size, i, none⟩ := fun i => k.cell (by simp)
  refine ⟨?_, ?_, ?_, ?_, ?_, ?_, ?_, ?_, ?_⟩ <;> rw [h] <;> simp

end Go.Proofs.Ytbhgjaaaffjjeaa.TB
