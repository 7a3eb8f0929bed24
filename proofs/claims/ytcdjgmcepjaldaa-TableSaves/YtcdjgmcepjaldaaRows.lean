/-
  No cell of these rows narrows 'for every input' (looked for: loops, veiled, ifaces, maps, wideKeys, modest, calm, conditions, laid).
  DERIVED. THE GIVEN ROWS OF THIS SEAT. 5 by the template 'for every input the law returns true; each argument reads behind the call as it read before'; 0 by the template 'total and deterministic' (their statements: YtcdjgmcepjaldaaTotals.lean).
  GIVEN WITH THE SEED: the statements are not yours to turn. If you find one false, say at which input.
  Laid BY PROGRAM, IN A SANDBOX (cutbox-rows.mjs): the forced cells as the released guide's own fill.sh prints them over the translation 564dc6a280b9f56d… (all of the seat's roots in one cut). By AI agents, Wed Nov 11 2026. No macro, syntax, notation, axiom, sorry.
-/
import Derived.Test.YtcdjgmcepjaldaaChecked
import GoSem.Claim
import GoSem.ClaimJoined
import GoSem.ClaimMapViews
import Derived.JoinedTies
import Derived.KernelRfl
namespace Go.Proofs.Ytcdjgmcepjaldaa
/- THE CELL 'sum', in the pinned program and in every row, IS THE sha256 OF THE DUMP (.gsa) THAT YtcdjgmcepjaldaaProg.lean LOADS. Nothing in Lean hashes anything: it is a label: what it is worth is what the hold of that sum in a sandbox is worth. -/
noncomputable def Try.pinned : Pinned := { name := "ytcdjgmcepjaldaa", sum := "564dc6a280b9f56dfd5a02a46c0b9e6969a6198fa0023c848bfb80e26544c7a9", checked := Try.checked }
namespace Rows
def none {H : Type} : Left H := { results := [], args := [] }

/-- 'dormouselaw04.TableChecks': WHATEVER THE INPUT: true; the input reads as it did. -/
def tableChecksSpec : ChangeSpec := { name := "tableChecks", fn := fun _ => fun
  | [d] => { results := [.lit (.bool true)], args := [d] }
  | _ => none }
def tableChecksRow : OpenClaim := { program := "ytcdjgmcepjaldaa", sum := "564dc6a280b9f56dfd5a02a46c0b9e6969a6198fa0023c848bfb80e26544c7a9", func := "dormouse/dormouselaw04.TableChecks", spec := "tableChecks", apart := false }
def TableChecksSaid : Prop := tableChecksRow.holds Try.pinned (OpenSpec.ofChange tableChecksSpec)

/-- ITS FALSE NEIGHBOUR: 'it returns false'. Refute it at one input. -/
def tableChecksWrong : ChangeSpec := { name := "tableChecks", fn := fun _ => fun
  | [d] => { results := [.lit (.bool false)], args := [d] }
  | _ => none }
def TableChecksWrongFalsely : Prop := tableChecksRow.holds Try.pinned (OpenSpec.ofChange tableChecksWrong)

/-- 'dormouselaw04.TableSaves': WHATEVER THE INPUT: true; the input reads as it did. -/
def tableSavesSpec : ChangeSpec := { name := "tableSaves", fn := fun _ => fun
  | [d1, d2] => { results := [.lit (.bool true)], args := [d1, d2] }
  | _ => none }
def tableSavesRow : OpenClaim := { program := "ytcdjgmcepjaldaa", sum := "564dc6a280b9f56dfd5a02a46c0b9e6969a6198fa0023c848bfb80e26544c7a9", func := "dormouse/dormouselaw04.TableSaves", spec := "tableSaves", apart := false }
def TableSavesSaid : Prop := tableSavesRow.holds Try.pinned (OpenSpec.ofChange tableSavesSpec)

/-- ITS FALSE NEIGHBOUR: 'it returns false'. Refute it at one input. -/
def tableSavesWrong : ChangeSpec := { name := "tableSaves", fn := fun _ => fun
  | [d1, d2] => { results := [.lit (.bool false)], args := [d1, d2] }
  | _ => none }
def TableSavesWrongFalsely : Prop := tableSavesRow.holds Try.pinned (OpenSpec.ofChange tableSavesWrong)

/-- 'dormouselaw04.TableNet': WHATEVER THE INPUT: true; the input reads as it did. -/
def tableNetSpec : ChangeSpec := { name := "tableNet", fn := fun _ => fun
  | [d1, d2, d3] => { results := [.lit (.bool true)], args := [d1, d2, d3] }
  | _ => none }
def tableNetRow : OpenClaim := { program := "ytcdjgmcepjaldaa", sum := "564dc6a280b9f56dfd5a02a46c0b9e6969a6198fa0023c848bfb80e26544c7a9", func := "dormouse/dormouselaw04.TableNet", spec := "tableNet", apart := false }
def TableNetSaid : Prop := tableNetRow.holds Try.pinned (OpenSpec.ofChange tableNetSpec)

/-- ITS FALSE NEIGHBOUR: 'it returns false'. Refute it at one input. -/
def tableNetWrong : ChangeSpec := { name := "tableNet", fn := fun _ => fun
  | [d1, d2, d3] => { results := [.lit (.bool false)], args := [d1, d2, d3] }
  | _ => none }
def TableNetWrongFalsely : Prop := tableNetRow.holds Try.pinned (OpenSpec.ofChange tableNetWrong)

/-- 'dormouselaw04.TableLess': WHATEVER THE INPUT: true; the input reads as it did. -/
def tableLessSpec : ChangeSpec := { name := "tableLess", fn := fun _ => fun
  | [d] => { results := [.lit (.bool true)], args := [d] }
  | _ => none }
def tableLessRow : OpenClaim := { program := "ytcdjgmcepjaldaa", sum := "564dc6a280b9f56dfd5a02a46c0b9e6969a6198fa0023c848bfb80e26544c7a9", func := "dormouse/dormouselaw04.TableLess", spec := "tableLess", apart := false }
def TableLessSaid : Prop := tableLessRow.holds Try.pinned (OpenSpec.ofChange tableLessSpec)

/-- ITS FALSE NEIGHBOUR: 'it returns false'. Refute it at one input. -/
def tableLessWrong : ChangeSpec := { name := "tableLess", fn := fun _ => fun
  | [d] => { results := [.lit (.bool false)], args := [d] }
  | _ => none }
def TableLessWrongFalsely : Prop := tableLessRow.holds Try.pinned (OpenSpec.ofChange tableLessWrong)

/-- 'dormouselaw04.TableOne': WHATEVER THE INPUT: true; the input reads as it did. -/
def tableOneSpec : ChangeSpec := { name := "tableOne", fn := fun _ => fun
  | [d1, d2, d3] => { results := [.lit (.bool true)], args := [d1, d2, d3] }
  | _ => none }
def tableOneRow : OpenClaim := { program := "ytcdjgmcepjaldaa", sum := "564dc6a280b9f56dfd5a02a46c0b9e6969a6198fa0023c848bfb80e26544c7a9", func := "dormouse/dormouselaw04.TableOne", spec := "tableOne", apart := false }
def TableOneSaid : Prop := tableOneRow.holds Try.pinned (OpenSpec.ofChange tableOneSpec)

/-- ITS FALSE NEIGHBOUR: 'it returns false'. Refute it at one input. -/
def tableOneWrong : ChangeSpec := { name := "tableOne", fn := fun _ => fun
  | [d1, d2, d3] => { results := [.lit (.bool false)], args := [d1, d2, d3] }
  | _ => none }
def TableOneWrongFalsely : Prop := tableOneRow.holds Try.pinned (OpenSpec.ofChange tableOneWrong)

/- THE SECOND FORM. 'bulk': how many values and letters a reading holds, each counted each time it is reached (what is shared counts as often as it is met; a slice's spare places count too). A statement '..UptoSaid' is the law's where the arguments, and the package variables that the reading takes, are together of bulk at most 1048576: NARROWER than '..Said'. Prove '..Said' where nothing that the law and all that it calls make is longer than what came in: it says more and counts as full. Else prove '..UptoSaid'. A law counts once. -/
mutual
def uptoBulk {H : Type} : DataW H → Nat
  | .lit (.string bytes) => bytes.length + 1
  | .lit _ => 1
  | .nil => 1
  | .ptr d => uptoBulk d + 1
  | .slice elems spare => uptoBulkAll elems + uptoBulkAll spare + 1
  | .agg parts => uptoBulkAll parts + 1
  | .iface _ d => uptoBulk d + 1
  | .map entries => uptoBulkEntries entries + 1
  | .held _ => 1
def uptoBulkAll {H : Type} : List (DataW H) → Nat
  | [] => 0
  | d :: r => uptoBulk d + uptoBulkAll r
def uptoBulkEntries {H : Type} : List (Lit × DataW H) → Nat
  | [] => 0
  | x :: r => uptoBulkEntry x + uptoBulkEntries r
def uptoBulkEntry {H : Type} : Lit × DataW H → Nat
  | (.string bytes, d) => bytes.length + uptoBulk d + 1
  | (_, d) => uptoBulk d + 1
 end
def uptoSmall : (H : Type) → List (DataW H) → Bool := fun _ ds => decide (uptoBulkAll ds ≤ 1048576)
def OpenSpec.upto (s : _root_.Go.ChangeSpec) : _root_.Go.OpenSpec := { _root_.Go.OpenSpec.ofChange s with cond := some uptoSmall }

/-- 'dormouselaw04.TableChecks', WHERE WHAT IT READS IS OF BULK AT MOST 1048576: true; the input reads as it did. -/
def tableChecksUptoRow : OpenClaim := { program := "ytcdjgmcepjaldaa", sum := "564dc6a280b9f56dfd5a02a46c0b9e6969a6198fa0023c848bfb80e26544c7a9", func := "dormouse/dormouselaw04.TableChecks", spec := "tableChecks", apart := false, narrowed := true }
def TableChecksUptoSaid : Prop := tableChecksUptoRow.holds Try.pinned (OpenSpec.upto tableChecksSpec)

/-- 'dormouselaw04.TableSaves', WHERE WHAT IT READS IS OF BULK AT MOST 1048576: true; the input reads as it did. -/
def tableSavesUptoRow : OpenClaim := { program := "ytcdjgmcepjaldaa", sum := "564dc6a280b9f56dfd5a02a46c0b9e6969a6198fa0023c848bfb80e26544c7a9", func := "dormouse/dormouselaw04.TableSaves", spec := "tableSaves", apart := false, narrowed := true }
def TableSavesUptoSaid : Prop := tableSavesUptoRow.holds Try.pinned (OpenSpec.upto tableSavesSpec)

/-- 'dormouselaw04.TableNet', WHERE WHAT IT READS IS OF BULK AT MOST 1048576: true; the input reads as it did. -/
def tableNetUptoRow : OpenClaim := { program := "ytcdjgmcepjaldaa", sum := "564dc6a280b9f56dfd5a02a46c0b9e6969a6198fa0023c848bfb80e26544c7a9", func := "dormouse/dormouselaw04.TableNet", spec := "tableNet", apart := false, narrowed := true }
def TableNetUptoSaid : Prop := tableNetUptoRow.holds Try.pinned (OpenSpec.upto tableNetSpec)

/-- 'dormouselaw04.TableLess', WHERE WHAT IT READS IS OF BULK AT MOST 1048576: true; the input reads as it did. -/
def tableLessUptoRow : OpenClaim := { program := "ytcdjgmcepjaldaa", sum := "564dc6a280b9f56dfd5a02a46c0b9e6969a6198fa0023c848bfb80e26544c7a9", func := "dormouse/dormouselaw04.TableLess", spec := "tableLess", apart := false, narrowed := true }
def TableLessUptoSaid : Prop := tableLessUptoRow.holds Try.pinned (OpenSpec.upto tableLessSpec)

/-- 'dormouselaw04.TableOne', WHERE WHAT IT READS IS OF BULK AT MOST 1048576: true; the input reads as it did. -/
def tableOneUptoRow : OpenClaim := { program := "ytcdjgmcepjaldaa", sum := "564dc6a280b9f56dfd5a02a46c0b9e6969a6198fa0023c848bfb80e26544c7a9", func := "dormouse/dormouselaw04.TableOne", spec := "tableOne", apart := false, narrowed := true }
def TableOneUptoSaid : Prop := tableOneUptoRow.holds Try.pinned (OpenSpec.upto tableOneSpec)

end Rows
end Go.Proofs.Ytcdjgmcepjaldaa
