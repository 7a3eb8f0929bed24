/-
  No cell of these rows narrows 'for every input' (looked for: loops, veiled, ifaces, maps, wideKeys, modest, calm, conditions, laid).
  DERIVED. THE GIVEN ROWS OF THIS SEAT. 4 by the template 'for every input the law returns true; each argument reads behind the call as it read before'; 0 by the template 'total and deterministic' (their statements: YteegjgecaopnlaaTotals.lean).
  GIVEN WITH THE SEED: the statements are not yours to turn. If you find one false, say at which input.
  Laid BY PROGRAM, IN A SANDBOX (cutbox-rows.mjs): the forced cells as the released guide's own fill.sh prints them over the translation caafbf23b97c96be… (all of the seat's roots in one cut). By AI agents, Wed Nov 11 2026. No macro, syntax, notation, axiom, sorry.
-/
import Derived.Test.YteegjgecaopnlaaChecked
import GoSem.Claim
import GoSem.ClaimJoined
import GoSem.ClaimMapViews
import Derived.JoinedTies
import Derived.KernelRfl
namespace Go.Proofs.Yteegjgecaopnlaa
/- THE CELL 'sum', in the pinned program and in every row, IS THE sha256 OF THE DUMP (.gsa) THAT YteegjgecaopnlaaProg.lean LOADS. Nothing in Lean hashes anything: it is a label: what it is worth is what the hold of that sum in a sandbox is worth. -/
noncomputable def Try.pinned : Pinned := { name := "yteegjgecaopnlaa", sum := "caafbf23b97c96be4d61486769f534c77d66e662efcefcc7bb91b462cfde13ed", checked := Try.checked }
namespace Rows
def none {H : Type} : Left H := { results := [], args := [] }

/-- 'dormouselaw14.PickWho': WHATEVER THE INPUT: true; the input reads as it did. -/
def pickWhoSpec : ChangeSpec := { name := "pickWho", fn := fun _ => fun
  | [d1, d2, d3, d4] => { results := [.lit (.bool true)], args := [d1, d2, d3, d4] }
  | _ => none }
def pickWhoRow : OpenClaim := { program := "yteegjgecaopnlaa", sum := "caafbf23b97c96be4d61486769f534c77d66e662efcefcc7bb91b462cfde13ed", func := "dormouse/dormouselaw14.PickWho", spec := "pickWho", apart := false }
def PickWhoSaid : Prop := pickWhoRow.holds Try.pinned (OpenSpec.ofChange pickWhoSpec)

/-- ITS FALSE NEIGHBOUR: 'it returns false'. Refute it at one input. -/
def pickWhoWrong : ChangeSpec := { name := "pickWho", fn := fun _ => fun
  | [d1, d2, d3, d4] => { results := [.lit (.bool false)], args := [d1, d2, d3, d4] }
  | _ => none }
def PickWhoWrongFalsely : Prop := pickWhoRow.holds Try.pinned (OpenSpec.ofChange pickWhoWrong)

/-- 'dormouselaw14.PickStarted': WHATEVER THE INPUT: true; the input reads as it did. -/
def pickStartedSpec : ChangeSpec := { name := "pickStarted", fn := fun _ => fun
  | [d1, d2, d3, d4] => { results := [.lit (.bool true)], args := [d1, d2, d3, d4] }
  | _ => none }
def pickStartedRow : OpenClaim := { program := "yteegjgecaopnlaa", sum := "caafbf23b97c96be4d61486769f534c77d66e662efcefcc7bb91b462cfde13ed", func := "dormouse/dormouselaw14.PickStarted", spec := "pickStarted", apart := false }
def PickStartedSaid : Prop := pickStartedRow.holds Try.pinned (OpenSpec.ofChange pickStartedSpec)

/-- ITS FALSE NEIGHBOUR: 'it returns false'. Refute it at one input. -/
def pickStartedWrong : ChangeSpec := { name := "pickStarted", fn := fun _ => fun
  | [d1, d2, d3, d4] => { results := [.lit (.bool false)], args := [d1, d2, d3, d4] }
  | _ => none }
def PickStartedWrongFalsely : Prop := pickStartedRow.holds Try.pinned (OpenSpec.ofChange pickStartedWrong)

/-- 'dormouselaw14.PickFree': WHATEVER THE INPUT: true; the input reads as it did. -/
def pickFreeSpec : ChangeSpec := { name := "pickFree", fn := fun _ => fun
  | [d1, d2, d3] => { results := [.lit (.bool true)], args := [d1, d2, d3] }
  | _ => none }
def pickFreeRow : OpenClaim := { program := "yteegjgecaopnlaa", sum := "caafbf23b97c96be4d61486769f534c77d66e662efcefcc7bb91b462cfde13ed", func := "dormouse/dormouselaw14.PickFree", spec := "pickFree", apart := false }
def PickFreeSaid : Prop := pickFreeRow.holds Try.pinned (OpenSpec.ofChange pickFreeSpec)

/-- ITS FALSE NEIGHBOUR: 'it returns false'. Refute it at one input. -/
def pickFreeWrong : ChangeSpec := { name := "pickFree", fn := fun _ => fun
  | [d1, d2, d3] => { results := [.lit (.bool false)], args := [d1, d2, d3] }
  | _ => none }
def PickFreeWrongFalsely : Prop := pickFreeRow.holds Try.pinned (OpenSpec.ofChange pickFreeWrong)

/-- 'dormouselaw14.PickHeld': WHATEVER THE INPUT: true; the input reads as it did. -/
def pickHeldSpec : ChangeSpec := { name := "pickHeld", fn := fun _ => fun
  | [d1, d2, d3, d4] => { results := [.lit (.bool true)], args := [d1, d2, d3, d4] }
  | _ => none }
def pickHeldRow : OpenClaim := { program := "yteegjgecaopnlaa", sum := "caafbf23b97c96be4d61486769f534c77d66e662efcefcc7bb91b462cfde13ed", func := "dormouse/dormouselaw14.PickHeld", spec := "pickHeld", apart := false }
def PickHeldSaid : Prop := pickHeldRow.holds Try.pinned (OpenSpec.ofChange pickHeldSpec)

/-- ITS FALSE NEIGHBOUR: 'it returns false'. Refute it at one input. -/
def pickHeldWrong : ChangeSpec := { name := "pickHeld", fn := fun _ => fun
  | [d1, d2, d3, d4] => { results := [.lit (.bool false)], args := [d1, d2, d3, d4] }
  | _ => none }
def PickHeldWrongFalsely : Prop := pickHeldRow.holds Try.pinned (OpenSpec.ofChange pickHeldWrong)

/- THE SECOND FORM. 'bulk': how many values and letters a reading holds, each counted each time it is reached (what is shared counts as often as it is met; a slice's spare places count too). A statement '..UptoSaid' is the law's where the arguments, and the package variables that the reading takes, are together of bulk at most 1048576: NARROWER than '..Said'. Prove '..Said' where nothing that the law and all that it calls make is longer than what came in: it says more and counts as full. Else prove '..UptoSaid'. A law counts once. -/
mutual
def uptoBulk {H : Type} : DataW H → Nat
  | .lit (.string bytes) => bytes.length + 1
  | .lit _ => 1
  | .nil => 1
  | .ptr d => uptoBulk d + 1
  | .slice elems spare => uptoBulkAll elems + uptoBulkAll spare + 1
  | .agg parts => uptoBulkAll parts + 1
  | .iface _ d => uptoBulk d + 1
  | .map entries => uptoBulkEntries entries + 1
  | .held _ => 1
def uptoBulkAll {H : Type} : List (DataW H) → Nat
  | [] => 0
  | d :: r => uptoBulk d + uptoBulkAll r
def uptoBulkEntries {H : Type} : List (Lit × DataW H) → Nat
  | [] => 0
  | x :: r => uptoBulkEntry x + uptoBulkEntries r
def uptoBulkEntry {H : Type} : Lit × DataW H → Nat
  | (.string bytes, d) => bytes.length + uptoBulk d + 1
  | (_, d) => uptoBulk d + 1
 end
def uptoSmall : (H : Type) → List (DataW H) → Bool := fun _ ds => decide (uptoBulkAll ds ≤ 1048576)
def OpenSpec.upto (s : _root_.Go.ChangeSpec) : _root_.Go.OpenSpec := { _root_.Go.OpenSpec.ofChange s with cond := some uptoSmall }

/-- 'dormouselaw14.PickWho', WHERE WHAT IT READS IS OF BULK AT MOST 1048576: true; the input reads as it did. -/
def pickWhoUptoRow : OpenClaim := { program := "yteegjgecaopnlaa", sum := "caafbf23b97c96be4d61486769f534c77d66e662efcefcc7bb91b462cfde13ed", func := "dormouse/dormouselaw14.PickWho", spec := "pickWho", apart := false, narrowed := true }
def PickWhoUptoSaid : Prop := pickWhoUptoRow.holds Try.pinned (OpenSpec.upto pickWhoSpec)

/-- 'dormouselaw14.PickStarted', WHERE WHAT IT READS IS OF BULK AT MOST 1048576: true; the input reads as it did. -/
def pickStartedUptoRow : OpenClaim := { program := "yteegjgecaopnlaa", sum := "caafbf23b97c96be4d61486769f534c77d66e662efcefcc7bb91b462cfde13ed", func := "dormouse/dormouselaw14.PickStarted", spec := "pickStarted", apart := false, narrowed := true }
def PickStartedUptoSaid : Prop := pickStartedUptoRow.holds Try.pinned (OpenSpec.upto pickStartedSpec)

/-- 'dormouselaw14.PickFree', WHERE WHAT IT READS IS OF BULK AT MOST 1048576: true; the input reads as it did. -/
def pickFreeUptoRow : OpenClaim := { program := "yteegjgecaopnlaa", sum := "caafbf23b97c96be4d61486769f534c77d66e662efcefcc7bb91b462cfde13ed", func := "dormouse/dormouselaw14.PickFree", spec := "pickFree", apart := false, narrowed := true }
def PickFreeUptoSaid : Prop := pickFreeUptoRow.holds Try.pinned (OpenSpec.upto pickFreeSpec)

/-- 'dormouselaw14.PickHeld', WHERE WHAT IT READS IS OF BULK AT MOST 1048576: true; the input reads as it did. -/
def pickHeldUptoRow : OpenClaim := { program := "yteegjgecaopnlaa", sum := "caafbf23b97c96be4d61486769f534c77d66e662efcefcc7bb91b462cfde13ed", func := "dormouse/dormouselaw14.PickHeld", spec := "pickHeld", apart := false, narrowed := true }
def PickHeldUptoSaid : Prop := pickHeldUptoRow.holds Try.pinned (OpenSpec.upto pickHeldSpec)

end Rows
end Go.Proofs.Yteegjgecaopnlaa
