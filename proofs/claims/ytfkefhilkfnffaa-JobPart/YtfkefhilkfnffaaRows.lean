/-
  No cell of these rows narrows 'for every input' (looked for: loops, veiled, ifaces, maps, wideKeys, modest, calm, conditions, laid).
  DERIVED. THE GIVEN ROWS OF THIS SEAT. 5 by the template 'for every input the law returns true; each argument reads behind the call as it read before'; 0 by the template 'total and deterministic' (their statements: YtfkefhilkfnffaaTotals.lean).
  GIVEN WITH THE SEED: the statements are not yours to turn. If you find one false, say at which input.
  Laid BY PROGRAM, IN A SANDBOX (cutbox-rows.mjs): the forced cells as the released guide's own fill.sh prints them over the translation f05a44388513660a… (all of the seat's roots in one cut). By AI agents, Wed Nov 11 2026. No macro, syntax, notation, axiom, sorry.
-/
import Derived.Test.YtfkefhilkfnffaaChecked
import GoSem.Claim
import GoSem.ClaimJoined
import GoSem.ClaimMapViews
import Derived.JoinedTies
import Derived.KernelRfl
namespace Go.Proofs.Ytfkefhilkfnffaa
/- THE CELL 'sum', in the pinned program and in every row, IS THE sha256 OF THE DUMP (.gsa) THAT YtfkefhilkfnffaaProg.lean LOADS. Nothing in Lean hashes anything: it is a label: what it is worth is what the hold of that sum in a sandbox is worth. -/
noncomputable def Try.pinned : Pinned := { name := "ytfkefhilkfnffaa", sum := "f05a44388513660af98e22a1ba3049c1e2ee2613c5375cac7b308a04098a907f", checked := Try.checked }
namespace Rows
def none {H : Type} : Left H := { results := [], args := [] }

/-- 'dormouselaw11.JobNew': WHATEVER THE INPUT: true; the input reads as it did. -/
def jobNewSpec : ChangeSpec := { name := "jobNew", fn := fun _ => fun
  | [d1, d2, d3, d4] => { results := [.lit (.bool true)], args := [d1, d2, d3, d4] }
  | _ => none }
def jobNewRow : OpenClaim := { program := "ytfkefhilkfnffaa", sum := "f05a44388513660af98e22a1ba3049c1e2ee2613c5375cac7b308a04098a907f", func := "dormouse/dormouselaw11.JobNew", spec := "jobNew", apart := false }
def JobNewSaid : Prop := jobNewRow.holds Try.pinned (OpenSpec.ofChange jobNewSpec)

/-- ITS FALSE NEIGHBOUR: 'it returns false'. Refute it at one input. -/
def jobNewWrong : ChangeSpec := { name := "jobNew", fn := fun _ => fun
  | [d1, d2, d3, d4] => { results := [.lit (.bool false)], args := [d1, d2, d3, d4] }
  | _ => none }
def JobNewWrongFalsely : Prop := jobNewRow.holds Try.pinned (OpenSpec.ofChange jobNewWrong)

/-- 'dormouselaw11.JobStep': WHATEVER THE INPUT: true; the input reads as it did. -/
def jobStepSpec : ChangeSpec := { name := "jobStep", fn := fun _ => fun
  | [d] => { results := [.lit (.bool true)], args := [d] }
  | _ => none }
def jobStepRow : OpenClaim := { program := "ytfkefhilkfnffaa", sum := "f05a44388513660af98e22a1ba3049c1e2ee2613c5375cac7b308a04098a907f", func := "dormouse/dormouselaw11.JobStep", spec := "jobStep", apart := false }
def JobStepSaid : Prop := jobStepRow.holds Try.pinned (OpenSpec.ofChange jobStepSpec)

/-- ITS FALSE NEIGHBOUR: 'it returns false'. Refute it at one input. -/
def jobStepWrong : ChangeSpec := { name := "jobStep", fn := fun _ => fun
  | [d] => { results := [.lit (.bool false)], args := [d] }
  | _ => none }
def JobStepWrongFalsely : Prop := jobStepRow.holds Try.pinned (OpenSpec.ofChange jobStepWrong)

/-- 'dormouselaw11.JobEnds': WHATEVER THE INPUT: true; the input reads as it did. -/
def jobEndsSpec : ChangeSpec := { name := "jobEnds", fn := fun _ => fun
  | [d1, d2, d3] => { results := [.lit (.bool true)], args := [d1, d2, d3] }
  | _ => none }
def jobEndsRow : OpenClaim := { program := "ytfkefhilkfnffaa", sum := "f05a44388513660af98e22a1ba3049c1e2ee2613c5375cac7b308a04098a907f", func := "dormouse/dormouselaw11.JobEnds", spec := "jobEnds", apart := false }
def JobEndsSaid : Prop := jobEndsRow.holds Try.pinned (OpenSpec.ofChange jobEndsSpec)

/-- ITS FALSE NEIGHBOUR: 'it returns false'. Refute it at one input. -/
def jobEndsWrong : ChangeSpec := { name := "jobEnds", fn := fun _ => fun
  | [d1, d2, d3] => { results := [.lit (.bool false)], args := [d1, d2, d3] }
  | _ => none }
def JobEndsWrongFalsely : Prop := jobEndsRow.holds Try.pinned (OpenSpec.ofChange jobEndsWrong)

/-- 'dormouselaw11.JobQuanta': WHATEVER THE INPUT: true; the input reads as it did. -/
def jobQuantaSpec : ChangeSpec := { name := "jobQuanta", fn := fun _ => fun
  | [d1, d2] => { results := [.lit (.bool true)], args := [d1, d2] }
  | _ => none }
def jobQuantaRow : OpenClaim := { program := "ytfkefhilkfnffaa", sum := "f05a44388513660af98e22a1ba3049c1e2ee2613c5375cac7b308a04098a907f", func := "dormouse/dormouselaw11.JobQuanta", spec := "jobQuanta", apart := false }
def JobQuantaSaid : Prop := jobQuantaRow.holds Try.pinned (OpenSpec.ofChange jobQuantaSpec)

/-- ITS FALSE NEIGHBOUR: 'it returns false'. Refute it at one input. -/
def jobQuantaWrong : ChangeSpec := { name := "jobQuanta", fn := fun _ => fun
  | [d1, d2] => { results := [.lit (.bool false)], args := [d1, d2] }
  | _ => none }
def JobQuantaWrongFalsely : Prop := jobQuantaRow.holds Try.pinned (OpenSpec.ofChange jobQuantaWrong)

/-- 'dormouselaw11.JobPart': WHATEVER THE INPUT: true; the input reads as it did. -/
def jobPartSpec : ChangeSpec := { name := "jobPart", fn := fun _ => fun
  | [d1, d2, d3] => { results := [.lit (.bool true)], args := [d1, d2, d3] }
  | _ => none }
def jobPartRow : OpenClaim := { program := "ytfkefhilkfnffaa", sum := "f05a44388513660af98e22a1ba3049c1e2ee2613c5375cac7b308a04098a907f", func := "dormouse/dormouselaw11.JobPart", spec := "jobPart", apart := false }
def JobPartSaid : Prop := jobPartRow.holds Try.pinned (OpenSpec.ofChange jobPartSpec)

/-- ITS FALSE NEIGHBOUR: 'it returns false'. Refute it at one input. -/
def jobPartWrong : ChangeSpec := { name := "jobPart", fn := fun _ => fun
  | [d1, d2, d3] => { results := [.lit (.bool false)], args := [d1, d2, d3] }
  | _ => none }
def JobPartWrongFalsely : Prop := jobPartRow.holds Try.pinned (OpenSpec.ofChange jobPartWrong)

/- THE SECOND FORM. 'bulk': how many values and letters a reading holds, each counted each time it is reached (what is shared counts as often as it is met; a slice's spare places count too). A statement '..UptoSaid' is the law's where the arguments, and the package variables that the reading takes, are together of bulk at most 1048576: NARROWER than '..Said'. Prove '..Said' where nothing that the law and all that it calls make is longer than what came in: it says more and counts as full. Else prove '..UptoSaid'. A law counts once. -/
mutual
def uptoBulk {H : Type} : DataW H → Nat
  | .lit (.string bytes) => bytes.length + 1
  | .lit _ => 1
  | .nil => 1
  | .ptr d => uptoBulk d + 1
  | .slice elems spare => uptoBulkAll elems + uptoBulkAll spare + 1
  | .agg parts => uptoBulkAll parts + 1
  | .iface _ d => uptoBulk d + 1
  | .map entries => uptoBulkEntries entries + 1
  | .held _ => 1
def uptoBulkAll {H : Type} : List (DataW H) → Nat
  | [] => 0
  | d :: r => uptoBulk d + uptoBulkAll r
def uptoBulkEntries {H : Type} : List (Lit × DataW H) → Nat
  | [] => 0
  | x :: r => uptoBulkEntry x + uptoBulkEntries r
def uptoBulkEntry {H : Type} : Lit × DataW H → Nat
  | (.string bytes, d) => bytes.length + uptoBulk d + 1
  | (_, d) => uptoBulk d + 1
 end
def uptoSmall : (H : Type) → List (DataW H) → Bool := fun _ ds => decide (uptoBulkAll ds ≤ 1048576)
def OpenSpec.upto (s : _root_.Go.ChangeSpec) : _root_.Go.OpenSpec := { _root_.Go.OpenSpec.ofChange s with cond := some uptoSmall }

/-- 'dormouselaw11.JobNew', WHERE WHAT IT READS IS OF BULK AT MOST 1048576: true; the input reads as it did. -/
def jobNewUptoRow : OpenClaim := { program := "ytfkefhilkfnffaa", sum := "f05a44388513660af98e22a1ba3049c1e2ee2613c5375cac7b308a04098a907f", func := "dormouse/dormouselaw11.JobNew", spec := "jobNew", apart := false, narrowed := true }
def JobNewUptoSaid : Prop := jobNewUptoRow.holds Try.pinned (OpenSpec.upto jobNewSpec)

/-- 'dormouselaw11.JobStep', WHERE WHAT IT READS IS OF BULK AT MOST 1048576: true; the input reads as it did. -/
def jobStepUptoRow : OpenClaim := { program := "ytfkefhilkfnffaa", sum := "f05a44388513660af98e22a1ba3049c1e2ee2613c5375cac7b308a04098a907f", func := "dormouse/dormouselaw11.JobStep", spec := "jobStep", apart := false, narrowed := true }
def JobStepUptoSaid : Prop := jobStepUptoRow.holds Try.pinned (OpenSpec.upto jobStepSpec)

/-- 'dormouselaw11.JobEnds', WHERE WHAT IT READS IS OF BULK AT MOST 1048576: true; the input reads as it did. -/
def jobEndsUptoRow : OpenClaim := { program := "ytfkefhilkfnffaa", sum := "f05a44388513660af98e22a1ba3049c1e2ee2613c5375cac7b308a04098a907f", func := "dormouse/dormouselaw11.JobEnds", spec := "jobEnds", apart := false, narrowed := true }
def JobEndsUptoSaid : Prop := jobEndsUptoRow.holds Try.pinned (OpenSpec.upto jobEndsSpec)

/-- 'dormouselaw11.JobQuanta', WHERE WHAT IT READS IS OF BULK AT MOST 1048576: true; the input reads as it did. -/
def jobQuantaUptoRow : OpenClaim := { program := "ytfkefhilkfnffaa", sum := "f05a44388513660af98e22a1ba3049c1e2ee2613c5375cac7b308a04098a907f", func := "dormouse/dormouselaw11.JobQuanta", spec := "jobQuanta", apart := false, narrowed := true }
def JobQuantaUptoSaid : Prop := jobQuantaUptoRow.holds Try.pinned (OpenSpec.upto jobQuantaSpec)

/-- 'dormouselaw11.JobPart', WHERE WHAT IT READS IS OF BULK AT MOST 1048576: true; the input reads as it did. -/
def jobPartUptoRow : OpenClaim := { program := "ytfkefhilkfnffaa", sum := "f05a44388513660af98e22a1ba3049c1e2ee2613c5375cac7b308a04098a907f", func := "dormouse/dormouselaw11.JobPart", spec := "jobPart", apart := false, narrowed := true }
def JobPartUptoSaid : Prop := jobPartUptoRow.holds Try.pinned (OpenSpec.upto jobPartSpec)

end Rows
end Go.Proofs.Ytfkefhilkfnffaa
