/-
  No cell of these rows narrows 'for every input' (looked for: loops, veiled, ifaces, maps, wideKeys, modest, calm, conditions, laid).
  DERIVED. THE GIVEN ROWS OF THIS SEAT. 4 by the template 'for every input the law returns true; each argument reads behind the call as it read before'; 0 by the template 'total and deterministic' (their statements: YtlkilcgkpdmkpaaTotals.lean).
  GIVEN WITH THE SEED: the statements are not yours to turn. If you find one false, say at which input.
  Laid BY PROGRAM, IN A SANDBOX (cutbox-rows.mjs): the forced cells as the released guide's own fill.sh prints them over the translation 5164117e475f34af… (all of the seat's roots in one cut). By AI agents, Wed Nov 11 2026. No macro, syntax, notation, axiom, sorry.
-/
import Derived.Test.YtlkilcgkpdmkpaaChecked
import GoSem.Claim
import GoSem.ClaimJoined
import GoSem.ClaimMapViews
import Derived.JoinedTies
import Derived.KernelRfl
namespace Go.Proofs.Ytlkilcgkpdmkpaa
/- THE CELL 'sum', in the pinned program and in every row, IS THE sha256 OF THE DUMP (.gsa) THAT YtlkilcgkpdmkpaaProg.lean LOADS. Nothing in Lean hashes anything: it is a label: what it is worth is what the hold of that sum in a sandbox is worth. -/
noncomputable def Try.pinned : Pinned := { name := "ytlkilcgkpdmkpaa", sum := "5164117e475f34affb894cacec677f472093a83a895893d8d0d195218c67e884", checked := Try.checked }
namespace Rows
def none {H : Type} : Left H := { results := [], args := [] }

/-- 'dormouselaw08.NapCost': WHATEVER THE INPUT: true; the input reads as it did. -/
def napCostSpec : ChangeSpec := { name := "napCost", fn := fun _ => fun
  | [d1, d2, d3] => { results := [.lit (.bool true)], args := [d1, d2, d3] }
  | _ => none }
def napCostRow : OpenClaim := { program := "ytlkilcgkpdmkpaa", sum := "5164117e475f34affb894cacec677f472093a83a895893d8d0d195218c67e884", func := "dormouse/dormouselaw08.NapCost", spec := "napCost", apart := false }
def NapCostSaid : Prop := napCostRow.holds Try.pinned (OpenSpec.ofChange napCostSpec)

/-- ITS FALSE NEIGHBOUR: 'it returns false'. Refute it at one input. -/
def napCostWrong : ChangeSpec := { name := "napCost", fn := fun _ => fun
  | [d1, d2, d3] => { results := [.lit (.bool false)], args := [d1, d2, d3] }
  | _ => none }
def NapCostWrongFalsely : Prop := napCostRow.holds Try.pinned (OpenSpec.ofChange napCostWrong)

/-- 'dormouselaw08.NapBest': WHATEVER THE INPUT: true; the input reads as it did. -/
def napBestSpec : ChangeSpec := { name := "napBest", fn := fun _ => fun
  | [d1, d2] => { results := [.lit (.bool true)], args := [d1, d2] }
  | _ => none }
def napBestRow : OpenClaim := { program := "ytlkilcgkpdmkpaa", sum := "5164117e475f34affb894cacec677f472093a83a895893d8d0d195218c67e884", func := "dormouse/dormouselaw08.NapBest", spec := "napBest", apart := false }
def NapBestSaid : Prop := napBestRow.holds Try.pinned (OpenSpec.ofChange napBestSpec)

/-- ITS FALSE NEIGHBOUR: 'it returns false'. Refute it at one input. -/
def napBestWrong : ChangeSpec := { name := "napBest", fn := fun _ => fun
  | [d1, d2] => { results := [.lit (.bool false)], args := [d1, d2] }
  | _ => none }
def NapBestWrongFalsely : Prop := napBestRow.holds Try.pinned (OpenSpec.ofChange napBestWrong)

/-- 'dormouselaw08.NapLeast': WHATEVER THE INPUT: true; the input reads as it did. -/
def napLeastSpec : ChangeSpec := { name := "napLeast", fn := fun _ => fun
  | [d1, d2] => { results := [.lit (.bool true)], args := [d1, d2] }
  | _ => none }
def napLeastRow : OpenClaim := { program := "ytlkilcgkpdmkpaa", sum := "5164117e475f34affb894cacec677f472093a83a895893d8d0d195218c67e884", func := "dormouse/dormouselaw08.NapLeast", spec := "napLeast", apart := false }
def NapLeastSaid : Prop := napLeastRow.holds Try.pinned (OpenSpec.ofChange napLeastSpec)

/-- ITS FALSE NEIGHBOUR: 'it returns false'. Refute it at one input. -/
def napLeastWrong : ChangeSpec := { name := "napLeast", fn := fun _ => fun
  | [d1, d2] => { results := [.lit (.bool false)], args := [d1, d2] }
  | _ => none }
def NapLeastWrongFalsely : Prop := napLeastRow.holds Try.pinned (OpenSpec.ofChange napLeastWrong)

/-- 'dormouselaw08.NapLonger': WHATEVER THE INPUT: true; the input reads as it did. -/
def napLongerSpec : ChangeSpec := { name := "napLonger", fn := fun _ => fun
  | [d1, d2, d3] => { results := [.lit (.bool true)], args := [d1, d2, d3] }
  | _ => none }
def napLongerRow : OpenClaim := { program := "ytlkilcgkpdmkpaa", sum := "5164117e475f34affb894cacec677f472093a83a895893d8d0d195218c67e884", func := "dormouse/dormouselaw08.NapLonger", spec := "napLonger", apart := false }
def NapLongerSaid : Prop := napLongerRow.holds Try.pinned (OpenSpec.ofChange napLongerSpec)

/-- ITS FALSE NEIGHBOUR: 'it returns false'. Refute it at one input. -/
def napLongerWrong : ChangeSpec := { name := "napLonger", fn := fun _ => fun
  | [d1, d2, d3] => { results := [.lit (.bool false)], args := [d1, d2, d3] }
  | _ => none }
def NapLongerWrongFalsely : Prop := napLongerRow.holds Try.pinned (OpenSpec.ofChange napLongerWrong)

/- THE SECOND FORM. 'bulk': how many values and letters a reading holds, each counted each time it is reached (what is shared counts as often as it is met; a slice's spare places count too). A statement '..UptoSaid' is the law's where the arguments, and the package variables that the reading takes, are together of bulk at most 1048576: NARROWER than '..Said'. Prove '..Said' where nothing that the law and all that it calls make is longer than what came in: it says more and counts as full. Else prove '..UptoSaid'. A law counts once. -/
mutual
def uptoBulk {H : Type} : DataW H → Nat
  | .lit (.string bytes) => bytes.length + 1
  | .lit _ => 1
  | .nil => 1
  | .ptr d => uptoBulk d + 1
  | .slice elems spare => uptoBulkAll elems + uptoBulkAll spare + 1
  | .agg parts => uptoBulkAll parts + 1
  | .iface _ d => uptoBulk d + 1
  | .map entries => uptoBulkEntries entries + 1
  | .held _ => 1
def uptoBulkAll {H : Type} : List (DataW H) → Nat
  | [] => 0
  | d :: r => uptoBulk d + uptoBulkAll r
def uptoBulkEntries {H : Type} : List (Lit × DataW H) → Nat
  | [] => 0
  | x :: r => uptoBulkEntry x + uptoBulkEntries r
def uptoBulkEntry {H : Type} : Lit × DataW H → Nat
  | (.string bytes, d) => bytes.length + uptoBulk d + 1
  | (_, d) => uptoBulk d + 1
 end
def uptoSmall : (H : Type) → List (DataW H) → Bool := fun _ ds => decide (uptoBulkAll ds ≤ 1048576)
def OpenSpec.upto (s : _root_.Go.ChangeSpec) : _root_.Go.OpenSpec := { _root_.Go.OpenSpec.ofChange s with cond := some uptoSmall }

/-- 'dormouselaw08.NapCost', WHERE WHAT IT READS IS OF BULK AT MOST 1048576: true; the input reads as it did. -/
def napCostUptoRow : OpenClaim := { program := "ytlkilcgkpdmkpaa", sum := "5164117e475f34affb894cacec677f472093a83a895893d8d0d195218c67e884", func := "dormouse/dormouselaw08.NapCost", spec := "napCost", apart := false, narrowed := true }
def NapCostUptoSaid : Prop := napCostUptoRow.holds Try.pinned (OpenSpec.upto napCostSpec)

/-- 'dormouselaw08.NapBest', WHERE WHAT IT READS IS OF BULK AT MOST 1048576: true; the input reads as it did. -/
def napBestUptoRow : OpenClaim := { program := "ytlkilcgkpdmkpaa", sum := "5164117e475f34affb894cacec677f472093a83a895893d8d0d195218c67e884", func := "dormouse/dormouselaw08.NapBest", spec := "napBest", apart := false, narrowed := true }
def NapBestUptoSaid : Prop := napBestUptoRow.holds Try.pinned (OpenSpec.upto napBestSpec)

/-- 'dormouselaw08.NapLeast', WHERE WHAT IT READS IS OF BULK AT MOST 1048576: true; the input reads as it did. -/
def napLeastUptoRow : OpenClaim := { program := "ytlkilcgkpdmkpaa", sum := "5164117e475f34affb894cacec677f472093a83a895893d8d0d195218c67e884", func := "dormouse/dormouselaw08.NapLeast", spec := "napLeast", apart := false, narrowed := true }
def NapLeastUptoSaid : Prop := napLeastUptoRow.holds Try.pinned (OpenSpec.upto napLeastSpec)

/-- 'dormouselaw08.NapLonger', WHERE WHAT IT READS IS OF BULK AT MOST 1048576: true; the input reads as it did. -/
def napLongerUptoRow : OpenClaim := { program := "ytlkilcgkpdmkpaa", sum := "5164117e475f34affb894cacec677f472093a83a895893d8d0d195218c67e884", func := "dormouse/dormouselaw08.NapLonger", spec := "napLonger", apart := false, narrowed := true }
def NapLongerUptoSaid : Prop := napLongerUptoRow.holds Try.pinned (OpenSpec.upto napLongerSpec)

end Rows
end Go.Proofs.Ytlkilcgkpdmkpaa
