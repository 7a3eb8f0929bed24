/-
  No cell of these rows narrows 'for every input' (looked for: loops, veiled, ifaces, maps, wideKeys, modest, calm, conditions, laid).
  DERIVED. THE GIVEN ROWS OF THIS SEAT. 6 by the template 'for every input the law returns true; each argument reads behind the call as it read before'; 0 by the template 'total and deterministic' (their statements: YtaibpanceiapmaaTotals.lean).
  GIVEN WITH THE SEED: the statements are not yours to turn. If you find one false, say at which input.
  Laid BY PROGRAM, IN A SANDBOX (cutbox-rows.mjs): the forced cells as the released guide's own fill.sh prints them over the translation 25cc4bfcf52f124d… (all of the seat's roots in one cut). By AI agents, Wed Nov 11 2026. No macro, syntax, notation, axiom, sorry.
-/
import Derived.Test.YtaibpanceiapmaaChecked
import GoSem.Claim
import GoSem.ClaimJoined
import GoSem.ClaimMapViews
import Derived.JoinedTies
import Derived.KernelRfl
namespace Go.Proofs.Ytaibpanceiapmaa
/- THE CELL 'sum', in the pinned program and in every row, IS THE sha256 OF THE DUMP (.gsa) THAT YtaibpanceiapmaaProg.lean LOADS. Nothing in Lean hashes anything: it is a label: what it is worth is what the hold of that sum in a sandbox is worth. -/
noncomputable def Try.pinned : Pinned := { name := "ytaibpanceiapmaa", sum := "25cc4bfcf52f124d1b097314f4c31abb6b8761065494005df2565a949272eca5", checked := Try.checked }
namespace Rows
def none {H : Type} : Left H := { results := [], args := [] }

/-- 'dormouselaw15.SlackHinders': WHATEVER THE INPUT: true; the input reads as it did. -/
def slackHindersSpec : ChangeSpec := { name := "slackHinders", fn := fun _ => fun
  | [d] => { results := [.lit (.bool true)], args := [d] }
  | _ => none }
def slackHindersRow : OpenClaim := { program := "ytaibpanceiapmaa", sum := "25cc4bfcf52f124d1b097314f4c31abb6b8761065494005df2565a949272eca5", func := "dormouse/dormouselaw15.SlackHinders", spec := "slackHinders", unfollowed := true, recurses := true, apart := false }
def SlackHindersSaid : Prop := slackHindersRow.holds Try.pinned (OpenSpec.ofChange slackHindersSpec)

/-- ITS FALSE NEIGHBOUR: 'it returns false'. Refute it at one input. -/
def slackHindersWrong : ChangeSpec := { name := "slackHinders", fn := fun _ => fun
  | [d] => { results := [.lit (.bool false)], args := [d] }
  | _ => none }
def SlackHindersWrongFalsely : Prop := slackHindersRow.holds Try.pinned (OpenSpec.ofChange slackHindersWrong)

/-- 'dormouselaw15.SlackAt': WHATEVER THE INPUT: true; the input reads as it did. -/
def slackAtSpec : ChangeSpec := { name := "slackAt", fn := fun _ => fun
  | [d] => { results := [.lit (.bool true)], args := [d] }
  | _ => none }
def slackAtRow : OpenClaim := { program := "ytaibpanceiapmaa", sum := "25cc4bfcf52f124d1b097314f4c31abb6b8761065494005df2565a949272eca5", func := "dormouse/dormouselaw15.SlackAt", spec := "slackAt", unfollowed := true, recurses := true, apart := false }
def SlackAtSaid : Prop := slackAtRow.holds Try.pinned (OpenSpec.ofChange slackAtSpec)

/-- ITS FALSE NEIGHBOUR: 'it returns false'. Refute it at one input. -/
def slackAtWrong : ChangeSpec := { name := "slackAt", fn := fun _ => fun
  | [d] => { results := [.lit (.bool false)], args := [d] }
  | _ => none }
def SlackAtWrongFalsely : Prop := slackAtRow.holds Try.pinned (OpenSpec.ofChange slackAtWrong)

/-- 'dormouselaw15.SlackLeast': WHATEVER THE INPUT: true; the input reads as it did. -/
def slackLeastSpec : ChangeSpec := { name := "slackLeast", fn := fun _ => fun
  | [d] => { results := [.lit (.bool true)], args := [d] }
  | _ => none }
def slackLeastRow : OpenClaim := { program := "ytaibpanceiapmaa", sum := "25cc4bfcf52f124d1b097314f4c31abb6b8761065494005df2565a949272eca5", func := "dormouse/dormouselaw15.SlackLeast", spec := "slackLeast", unfollowed := true, recurses := true, apart := false }
def SlackLeastSaid : Prop := slackLeastRow.holds Try.pinned (OpenSpec.ofChange slackLeastSpec)

/-- ITS FALSE NEIGHBOUR: 'it returns false'. Refute it at one input. -/
def slackLeastWrong : ChangeSpec := { name := "slackLeast", fn := fun _ => fun
  | [d] => { results := [.lit (.bool false)], args := [d] }
  | _ => none }
def SlackLeastWrongFalsely : Prop := slackLeastRow.holds Try.pinned (OpenSpec.ofChange slackLeastWrong)

/-- 'dormouselaw15.SlackRises': WHATEVER THE INPUT: true; the input reads as it did. -/
def slackRisesSpec : ChangeSpec := { name := "slackRises", fn := fun _ => fun
  | [d1, d2] => { results := [.lit (.bool true)], args := [d1, d2] }
  | _ => none }
def slackRisesRow : OpenClaim := { program := "ytaibpanceiapmaa", sum := "25cc4bfcf52f124d1b097314f4c31abb6b8761065494005df2565a949272eca5", func := "dormouse/dormouselaw15.SlackRises", spec := "slackRises", unfollowed := true, recurses := true, apart := false }
def SlackRisesSaid : Prop := slackRisesRow.holds Try.pinned (OpenSpec.ofChange slackRisesSpec)

/-- ITS FALSE NEIGHBOUR: 'it returns false'. Refute it at one input. -/
def slackRisesWrong : ChangeSpec := { name := "slackRises", fn := fun _ => fun
  | [d1, d2] => { results := [.lit (.bool false)], args := [d1, d2] }
  | _ => none }
def SlackRisesWrongFalsely : Prop := slackRisesRow.holds Try.pinned (OpenSpec.ofChange slackRisesWrong)

/-- 'dormouselaw15.SlackIdle': WHATEVER THE INPUT: true; the input reads as it did. -/
def slackIdleSpec : ChangeSpec := { name := "slackIdle", fn := fun _ => fun
  | [d1, d2] => { results := [.lit (.bool true)], args := [d1, d2] }
  | _ => none }
def slackIdleRow : OpenClaim := { program := "ytaibpanceiapmaa", sum := "25cc4bfcf52f124d1b097314f4c31abb6b8761065494005df2565a949272eca5", func := "dormouse/dormouselaw15.SlackIdle", spec := "slackIdle", unfollowed := true, recurses := true, apart := false }
def SlackIdleSaid : Prop := slackIdleRow.holds Try.pinned (OpenSpec.ofChange slackIdleSpec)

/-- ITS FALSE NEIGHBOUR: 'it returns false'. Refute it at one input. -/
def slackIdleWrong : ChangeSpec := { name := "slackIdle", fn := fun _ => fun
  | [d1, d2] => { results := [.lit (.bool false)], args := [d1, d2] }
  | _ => none }
def SlackIdleWrongFalsely : Prop := slackIdleRow.holds Try.pinned (OpenSpec.ofChange slackIdleWrong)

/-- 'dormouselaw15.SlackReleased': WHATEVER THE INPUT: true; the input reads as it did. -/
def slackReleasedSpec : ChangeSpec := { name := "slackReleased", fn := fun _ => fun
  | [d1, d2, d3] => { results := [.lit (.bool true)], args := [d1, d2, d3] }
  | _ => none }
def slackReleasedRow : OpenClaim := { program := "ytaibpanceiapmaa", sum := "25cc4bfcf52f124d1b097314f4c31abb6b8761065494005df2565a949272eca5", func := "dormouse/dormouselaw15.SlackReleased", spec := "slackReleased", unfollowed := true, recurses := true, apart := false }
def SlackReleasedSaid : Prop := slackReleasedRow.holds Try.pinned (OpenSpec.ofChange slackReleasedSpec)

/-- ITS FALSE NEIGHBOUR: 'it returns false'. Refute it at one input. -/
def slackReleasedWrong : ChangeSpec := { name := "slackReleased", fn := fun _ => fun
  | [d1, d2, d3] => { results := [.lit (.bool false)], args := [d1, d2, d3] }
  | _ => none }
def SlackReleasedWrongFalsely : Prop := slackReleasedRow.holds Try.pinned (OpenSpec.ofChange slackReleasedWrong)

/- THE SECOND FORM. 'bulk': how many values and letters a reading holds, each counted each time it is reached (what is shared counts as often as it is met; a slice's spare places count too). A statement '..UptoSaid' is the law's where the arguments, and the package variables that the reading takes, are together of bulk at most 1048576: NARROWER than '..Said'. Prove '..Said' where nothing that the law and all that it calls make is longer than what came in: it says more and counts as full. Else prove '..UptoSaid'. A law counts once. -/
mutual
def uptoBulk {H : Type} : DataW H → Nat
  | .lit (.string bytes) => bytes.length + 1
  | .lit _ => 1
  | .nil => 1
  | .ptr d => uptoBulk d + 1
  | .slice elems spare => uptoBulkAll elems + uptoBulkAll spare + 1
  | .agg parts => uptoBulkAll parts + 1
  | .iface _ d => uptoBulk d + 1
  | .map entries => uptoBulkEntries entries + 1
  | .held _ => 1
def uptoBulkAll {H : Type} : List (DataW H) → Nat
  | [] => 0
  | d :: r => uptoBulk d + uptoBulkAll r
def uptoBulkEntries {H : Type} : List (Lit × DataW H) → Nat
  | [] => 0
  | x :: r => uptoBulkEntry x + uptoBulkEntries r
def uptoBulkEntry {H : Type} : Lit × DataW H → Nat
  | (.string bytes, d) => bytes.length + uptoBulk d + 1
  | (_, d) => uptoBulk d + 1
 end
def uptoSmall : (H : Type) → List (DataW H) → Bool := fun _ ds => decide (uptoBulkAll ds ≤ 1048576)
def OpenSpec.upto (s : _root_.Go.ChangeSpec) : _root_.Go.OpenSpec := { _root_.Go.OpenSpec.ofChange s with cond := some uptoSmall }

/-- 'dormouselaw15.SlackHinders', WHERE WHAT IT READS IS OF BULK AT MOST 1048576: true; the input reads as it did. -/
def slackHindersUptoRow : OpenClaim := { program := "ytaibpanceiapmaa", sum := "25cc4bfcf52f124d1b097314f4c31abb6b8761065494005df2565a949272eca5", func := "dormouse/dormouselaw15.SlackHinders", spec := "slackHinders", unfollowed := true, recurses := true, apart := false, narrowed := true }
def SlackHindersUptoSaid : Prop := slackHindersUptoRow.holds Try.pinned (OpenSpec.upto slackHindersSpec)

/-- 'dormouselaw15.SlackAt', WHERE WHAT IT READS IS OF BULK AT MOST 1048576: true; the input reads as it did. -/
def slackAtUptoRow : OpenClaim := { program := "ytaibpanceiapmaa", sum := "25cc4bfcf52f124d1b097314f4c31abb6b8761065494005df2565a949272eca5", func := "dormouse/dormouselaw15.SlackAt", spec := "slackAt", unfollowed := true, recurses := true, apart := false, narrowed := true }
def SlackAtUptoSaid : Prop := slackAtUptoRow.holds Try.pinned (OpenSpec.upto slackAtSpec)

/-- 'dormouselaw15.SlackLeast', WHERE WHAT IT READS IS OF BULK AT MOST 1048576: true; the input reads as it did. -/
def slackLeastUptoRow : OpenClaim := { program := "ytaibpanceiapmaa", sum := "25cc4bfcf52f124d1b097314f4c31abb6b8761065494005df2565a949272eca5", func := "dormouse/dormouselaw15.SlackLeast", spec := "slackLeast", unfollowed := true, recurses := true, apart := false, narrowed := true }
def SlackLeastUptoSaid : Prop := slackLeastUptoRow.holds Try.pinned (OpenSpec.upto slackLeastSpec)

/-- 'dormouselaw15.SlackRises', WHERE WHAT IT READS IS OF BULK AT MOST 1048576: true; the input reads as it did. -/
def slackRisesUptoRow : OpenClaim := { program := "ytaibpanceiapmaa", sum := "25cc4bfcf52f124d1b097314f4c31abb6b8761065494005df2565a949272eca5", func := "dormouse/dormouselaw15.SlackRises", spec := "slackRises", unfollowed := true, recurses := true, apart := false, narrowed := true }
def SlackRisesUptoSaid : Prop := slackRisesUptoRow.holds Try.pinned (OpenSpec.upto slackRisesSpec)

/-- 'dormouselaw15.SlackIdle', WHERE WHAT IT READS IS OF BULK AT MOST 1048576: true; the input reads as it did. -/
def slackIdleUptoRow : OpenClaim := { program := "ytaibpanceiapmaa", sum := "25cc4bfcf52f124d1b097314f4c31abb6b8761065494005df2565a949272eca5", func := "dormouse/dormouselaw15.SlackIdle", spec := "slackIdle", unfollowed := true, recurses := true, apart := false, narrowed := true }
def SlackIdleUptoSaid : Prop := slackIdleUptoRow.holds Try.pinned (OpenSpec.upto slackIdleSpec)

/-- 'dormouselaw15.SlackReleased', WHERE WHAT IT READS IS OF BULK AT MOST 1048576: true; the input reads as it did. -/
def slackReleasedUptoRow : OpenClaim := { program := "ytaibpanceiapmaa", sum := "25cc4bfcf52f124d1b097314f4c31abb6b8761065494005df2565a949272eca5", func := "dormouse/dormouselaw15.SlackReleased", spec := "slackReleased", unfollowed := true, recurses := true, apart := false, narrowed := true }
def SlackReleasedUptoSaid : Prop := slackReleasedUptoRow.holds Try.pinned (OpenSpec.upto slackReleasedSpec)

end Rows
end Go.Proofs.Ytaibpanceiapmaa
