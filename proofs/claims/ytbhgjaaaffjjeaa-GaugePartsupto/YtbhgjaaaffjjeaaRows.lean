/-
  No cell of these rows narrows 'for every input' (looked for: loops, veiled, ifaces, maps, wideKeys, modest, calm, conditions, laid).
  DERIVED. THE GIVEN ROWS OF THIS SEAT. 4 by the template 'for every input the law returns true; each argument reads behind the call as it read before'; 0 by the template 'total and deterministic' (their statements: YtbhgjaaaffjjeaaTotals.lean).
  GIVEN WITH THE SEED: the statements are not yours to turn. If you find one false, say at which input.
  Laid BY PROGRAM, IN A SANDBOX (cutbox-rows.mjs): the forced cells as the released guide's own fill.sh prints them over the translation e3ff3d1caa083576… (all of the seat's roots in one cut). By AI agents, Wed Nov 11 2026. No macro, syntax, notation, axiom, sorry.
-/
import Derived.Test.YtbhgjaaaffjjeaaChecked
import GoSem.Claim
import GoSem.ClaimJoined
import GoSem.ClaimMapViews
import Derived.JoinedTies
import Derived.KernelRfl
namespace Go.Proofs.Ytbhgjaaaffjjeaa
/- THE CELL 'sum', in the pinned program and in every row, IS THE sha256 OF THE DUMP (.gsa) THAT YtbhgjaaaffjjeaaProg.lean LOADS. Nothing in Lean hashes anything: it is a label: what it is worth is what the hold of that sum in a sandbox is worth. -/
noncomputable def Try.pinned : Pinned := { name := "ytbhgjaaaffjjeaa", sum := "e3ff3d1caa083576e48a664641d42b3840cc22adf72b8445797d6768b60a92d7", checked := Try.checked }
namespace Rows
def none {H : Type} : Left H := { results := [], args := [] }

/-- 'dormouselaw21.GaugeBound': WHATEVER THE INPUT: true; the input reads as it did. -/
def gaugeBoundSpec : ChangeSpec := { name := "gaugeBound", fn := fun _ => fun
  | [d1, d2, d3] => { results := [.lit (.bool true)], args := [d1, d2, d3] }
  | _ => none }
def gaugeBoundRow : OpenClaim := { program := "ytbhgjaaaffjjeaa", sum := "e3ff3d1caa083576e48a664641d42b3840cc22adf72b8445797d6768b60a92d7", func := "dormouse/dormouselaw21.GaugeBound", spec := "gaugeBound", apart := false }
def GaugeBoundSaid : Prop := gaugeBoundRow.holds Try.pinned (OpenSpec.ofChange gaugeBoundSpec)

/-- ITS FALSE NEIGHBOUR: 'it returns false'. Refute it at one input. -/
def gaugeBoundWrong : ChangeSpec := { name := "gaugeBound", fn := fun _ => fun
  | [d1, d2, d3] => { results := [.lit (.bool false)], args := [d1, d2, d3] }
  | _ => none }
def GaugeBoundWrongFalsely : Prop := gaugeBoundRow.holds Try.pinned (OpenSpec.ofChange gaugeBoundWrong)

/-- 'dormouselaw21.GaugeCounts': WHATEVER THE INPUT: true; the input reads as it did. -/
def gaugeCountsSpec : ChangeSpec := { name := "gaugeCounts", fn := fun _ => fun
  | [d] => { results := [.lit (.bool true)], args := [d] }
  | _ => none }
def gaugeCountsRow : OpenClaim := { program := "ytbhgjaaaffjjeaa", sum := "e3ff3d1caa083576e48a664641d42b3840cc22adf72b8445797d6768b60a92d7", func := "dormouse/dormouselaw21.GaugeCounts", spec := "gaugeCounts", apart := false }
def GaugeCountsSaid : Prop := gaugeCountsRow.holds Try.pinned (OpenSpec.ofChange gaugeCountsSpec)

/-- ITS FALSE NEIGHBOUR: 'it returns false'. Refute it at one input. -/
def gaugeCountsWrong : ChangeSpec := { name := "gaugeCounts", fn := fun _ => fun
  | [d] => { results := [.lit (.bool false)], args := [d] }
  | _ => none }
def GaugeCountsWrongFalsely : Prop := gaugeCountsRow.holds Try.pinned (OpenSpec.ofChange gaugeCountsWrong)

/-- 'dormouselaw21.GaugeLevels': WHATEVER THE INPUT: true; the input reads as it did. -/
def gaugeLevelsSpec : ChangeSpec := { name := "gaugeLevels", fn := fun _ => fun
  | [d1, d2, d3, d4, d5, d6] => { results := [.lit (.bool true)], args := [d1, d2, d3, d4, d5, d6] }
  | _ => none }
def gaugeLevelsRow : OpenClaim := { program := "ytbhgjaaaffjjeaa", sum := "e3ff3d1caa083576e48a664641d42b3840cc22adf72b8445797d6768b60a92d7", func := "dormouse/dormouselaw21.GaugeLevels", spec := "gaugeLevels", apart := false }
def GaugeLevelsSaid : Prop := gaugeLevelsRow.holds Try.pinned (OpenSpec.ofChange gaugeLevelsSpec)

/-- ITS FALSE NEIGHBOUR: 'it returns false'. Refute it at one input. -/
def gaugeLevelsWrong : ChangeSpec := { name := "gaugeLevels", fn := fun _ => fun
  | [d1, d2, d3, d4, d5, d6] => { results := [.lit (.bool false)], args := [d1, d2, d3, d4, d5, d6] }
  | _ => none }
def GaugeLevelsWrongFalsely : Prop := gaugeLevelsRow.holds Try.pinned (OpenSpec.ofChange gaugeLevelsWrong)

/-- 'dormouselaw21.GaugeParts': WHATEVER THE INPUT: true; the input reads as it did. -/
def gaugePartsSpec : ChangeSpec := { name := "gaugeParts", fn := fun _ => fun
  | [d1, d2] => { results := [.lit (.bool true)], args := [d1, d2] }
  | _ => none }
def gaugePartsRow : OpenClaim := { program := "ytbhgjaaaffjjeaa", sum := "e3ff3d1caa083576e48a664641d42b3840cc22adf72b8445797d6768b60a92d7", func := "dormouse/dormouselaw21.GaugeParts", spec := "gaugeParts", apart := false }
def GaugePartsSaid : Prop := gaugePartsRow.holds Try.pinned (OpenSpec.ofChange gaugePartsSpec)

/-- ITS FALSE NEIGHBOUR: 'it returns false'. Refute it at one input. -/
def gaugePartsWrong : ChangeSpec := { name := "gaugeParts", fn := fun _ => fun
  | [d1, d2] => { results := [.lit (.bool false)], args := [d1, d2] }
  | _ => none }
def GaugePartsWrongFalsely : Prop := gaugePartsRow.holds Try.pinned (OpenSpec.ofChange gaugePartsWrong)

/- THE SECOND FORM. 'bulk': how many values and letters a reading holds, each counted each time it is reached (what is shared counts as often as it is met; a slice's spare places count too). A statement '..UptoSaid' is the law's where the arguments, and the package variables that the reading takes, are together of bulk at most 1048576: NARROWER than '..Said'. Prove '..Said' where nothing that the law and all that it calls make is longer than what came in: it says more and counts as full. Else prove '..UptoSaid'. A law counts once. -/
mutual
def uptoBulk {H : Type} : DataW H → Nat
  | .lit (.string bytes) => bytes.length + 1
  | .lit _ => 1
  | .nil => 1
  | .ptr d => uptoBulk d + 1
  | .slice elems spare => uptoBulkAll elems + uptoBulkAll spare + 1
  | .agg parts => uptoBulkAll parts + 1
  | .iface _ d => uptoBulk d + 1
  | .map entries => uptoBulkEntries entries + 1
  | .held _ => 1
def uptoBulkAll {H : Type} : List (DataW H) → Nat
  | [] => 0
  | d :: r => uptoBulk d + uptoBulkAll r
def uptoBulkEntries {H : Type} : List (Lit × DataW H) → Nat
  | [] => 0
  | x :: r => uptoBulkEntry x + uptoBulkEntries r
def uptoBulkEntry {H : Type} : Lit × DataW H → Nat
  | (.string bytes, d) => bytes.length + uptoBulk d + 1
  | (_, d) => uptoBulk d + 1
 end
def uptoSmall : (H : Type) → List (DataW H) → Bool := fun _ ds => decide (uptoBulkAll ds ≤ 1048576)
def OpenSpec.upto (s : _root_.Go.ChangeSpec) : _root_.Go.OpenSpec := { _root_.Go.OpenSpec.ofChange s with cond := some uptoSmall }

/-- 'dormouselaw21.GaugeBound', WHERE WHAT IT READS IS OF BULK AT MOST 1048576: true; the input reads as it did. -/
def gaugeBoundUptoRow : OpenClaim := { program := "ytbhgjaaaffjjeaa", sum := "e3ff3d1caa083576e48a664641d42b3840cc22adf72b8445797d6768b60a92d7", func := "dormouse/dormouselaw21.GaugeBound", spec := "gaugeBound", apart := false, narrowed := true }
def GaugeBoundUptoSaid : Prop := gaugeBoundUptoRow.holds Try.pinned (OpenSpec.upto gaugeBoundSpec)

/-- 'dormouselaw21.GaugeCounts', WHERE WHAT IT READS IS OF BULK AT MOST 1048576: true; the input reads as it did. -/
def gaugeCountsUptoRow : OpenClaim := { program := "ytbhgjaaaffjjeaa", sum := "e3ff3d1caa083576e48a664641d42b3840cc22adf72b8445797d6768b60a92d7", func := "dormouse/dormouselaw21.GaugeCounts", spec := "gaugeCounts", apart := false, narrowed := true }
def GaugeCountsUptoSaid : Prop := gaugeCountsUptoRow.holds Try.pinned (OpenSpec.upto gaugeCountsSpec)

/-- 'dormouselaw21.GaugeLevels', WHERE WHAT IT READS IS OF BULK AT MOST 1048576: true; the input reads as it did. -/
def gaugeLevelsUptoRow : OpenClaim := { program := "ytbhgjaaaffjjeaa", sum := "e3ff3d1caa083576e48a664641d42b3840cc22adf72b8445797d6768b60a92d7", func := "dormouse/dormouselaw21.GaugeLevels", spec := "gaugeLevels", apart := false, narrowed := true }
def GaugeLevelsUptoSaid : Prop := gaugeLevelsUptoRow.holds Try.pinned (OpenSpec.upto gaugeLevelsSpec)

/-- 'dormouselaw21.GaugeParts', WHERE WHAT IT READS IS OF BULK AT MOST 1048576: true; the input reads as it did. -/
def gaugePartsUptoRow : OpenClaim := { program := "ytbhgjaaaffjjeaa", sum := "e3ff3d1caa083576e48a664641d42b3840cc22adf72b8445797d6768b60a92d7", func := "dormouse/dormouselaw21.GaugeParts", spec := "gaugeParts", apart := false, narrowed := true }
def GaugePartsUptoSaid : Prop := gaugePartsUptoRow.holds Try.pinned (OpenSpec.upto gaugePartsSpec)

end Rows
end Go.Proofs.Ytbhgjaaaffjjeaa
