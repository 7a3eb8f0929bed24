/-
  No cell of these rows narrows 'for every input' (looked for: loops, veiled, ifaces, maps, wideKeys, modest, calm, conditions, laid).
  DERIVED. THE GIVEN ROWS OF THIS SEAT. 5 by the template 'for every input the law returns true; each argument reads behind the call as it read before'; 0 by the template 'total and deterministic' (their statements: YtlcbgkicooeklaaTotals.lean).
  GIVEN WITH THE SEED: the statements are not yours to turn. If you find one false, say at which input.
  Laid BY PROGRAM, IN A SANDBOX (cutbox-rows.mjs): the forced cells as the released guide's own fill.sh prints them over the translation 80fa4b8f7544ffac… (all of the seat's roots in one cut). By AI agents, Wed Nov 11 2026. No macro, syntax, notation, axiom, sorry.
-/
import Derived.Test.YtlcbgkicooeklaaChecked
import GoSem.Claim
import GoSem.ClaimJoined
import GoSem.ClaimMapViews
import Derived.JoinedTies
import Derived.KernelRfl
namespace Go.Proofs.Ytlcbgkicooeklaa
/- THE CELL 'sum', in the pinned program and in every row, IS THE sha256 OF THE DUMP (.gsa) THAT YtlcbgkicooeklaaProg.lean LOADS. Nothing in Lean hashes anything: it is a label: what it is worth is what the hold of that sum in a sandbox is worth. -/
noncomputable def Try.pinned : Pinned := { name := "ytlcbgkicooeklaa", sum := "80fa4b8f7544ffac0fed12193c73bad5e79327992b1e25cf4283e7826aed6664", checked := Try.checked }
namespace Rows
def none {H : Type} : Left H := { results := [], args := [] }

/-- 'dormouselaw13.LocksPlays': WHATEVER THE INPUT: true; the input reads as it did. -/
def locksPlaysSpec : ChangeSpec := { name := "locksPlays", fn := fun _ => fun
  | [d1, d2] => { results := [.lit (.bool true)], args := [d1, d2] }
  | _ => none }
def locksPlaysRow : OpenClaim := { program := "ytlcbgkicooeklaa", sum := "80fa4b8f7544ffac0fed12193c73bad5e79327992b1e25cf4283e7826aed6664", func := "dormouse/dormouselaw13.LocksPlays", spec := "locksPlays", unfollowed := true, recurses := true, apart := false }
def LocksPlaysSaid : Prop := locksPlaysRow.holds Try.pinned (OpenSpec.ofChange locksPlaysSpec)

/-- ITS FALSE NEIGHBOUR: 'it returns false'. Refute it at one input. -/
def locksPlaysWrong : ChangeSpec := { name := "locksPlays", fn := fun _ => fun
  | [d1, d2] => { results := [.lit (.bool false)], args := [d1, d2] }
  | _ => none }
def LocksPlaysWrongFalsely : Prop := locksPlaysRow.holds Try.pinned (OpenSpec.ofChange locksPlaysWrong)

/-- 'dormouselaw13.LocksNests': WHATEVER THE INPUT: true; the input reads as it did. -/
def locksNestsSpec : ChangeSpec := { name := "locksNests", fn := fun _ => fun
  | [d1, d2, d3] => { results := [.lit (.bool true)], args := [d1, d2, d3] }
  | _ => none }
def locksNestsRow : OpenClaim := { program := "ytlcbgkicooeklaa", sum := "80fa4b8f7544ffac0fed12193c73bad5e79327992b1e25cf4283e7826aed6664", func := "dormouse/dormouselaw13.LocksNests", spec := "locksNests", unfollowed := true, recurses := true, apart := false }
def LocksNestsSaid : Prop := locksNestsRow.holds Try.pinned (OpenSpec.ofChange locksNestsSpec)

/-- ITS FALSE NEIGHBOUR: 'it returns false'. Refute it at one input. -/
def locksNestsWrong : ChangeSpec := { name := "locksNests", fn := fun _ => fun
  | [d1, d2, d3] => { results := [.lit (.bool false)], args := [d1, d2, d3] }
  | _ => none }
def LocksNestsWrongFalsely : Prop := locksNestsRow.holds Try.pinned (OpenSpec.ofChange locksNestsWrong)

/-- 'dormouselaw13.LocksOver': WHATEVER THE INPUT: true; the input reads as it did. -/
def locksOverSpec : ChangeSpec := { name := "locksOver", fn := fun _ => fun
  | [d1, d2] => { results := [.lit (.bool true)], args := [d1, d2] }
  | _ => none }
def locksOverRow : OpenClaim := { program := "ytlcbgkicooeklaa", sum := "80fa4b8f7544ffac0fed12193c73bad5e79327992b1e25cf4283e7826aed6664", func := "dormouse/dormouselaw13.LocksOver", spec := "locksOver", unfollowed := true, recurses := true, apart := false }
def LocksOverSaid : Prop := locksOverRow.holds Try.pinned (OpenSpec.ofChange locksOverSpec)

/-- ITS FALSE NEIGHBOUR: 'it returns false'. Refute it at one input. -/
def locksOverWrong : ChangeSpec := { name := "locksOver", fn := fun _ => fun
  | [d1, d2] => { results := [.lit (.bool false)], args := [d1, d2] }
  | _ => none }
def LocksOverWrongFalsely : Prop := locksOverRow.holds Try.pinned (OpenSpec.ofChange locksOverWrong)

/-- 'dormouselaw13.LocksFrees': WHATEVER THE INPUT: true; the input reads as it did. -/
def locksFreesSpec : ChangeSpec := { name := "locksFrees", fn := fun _ => fun
  | [d1, d2] => { results := [.lit (.bool true)], args := [d1, d2] }
  | _ => none }
def locksFreesRow : OpenClaim := { program := "ytlcbgkicooeklaa", sum := "80fa4b8f7544ffac0fed12193c73bad5e79327992b1e25cf4283e7826aed6664", func := "dormouse/dormouselaw13.LocksFrees", spec := "locksFrees", unfollowed := true, recurses := true, apart := false }
def LocksFreesSaid : Prop := locksFreesRow.holds Try.pinned (OpenSpec.ofChange locksFreesSpec)

/-- ITS FALSE NEIGHBOUR: 'it returns false'. Refute it at one input. -/
def locksFreesWrong : ChangeSpec := { name := "locksFrees", fn := fun _ => fun
  | [d1, d2] => { results := [.lit (.bool false)], args := [d1, d2] }
  | _ => none }
def LocksFreesWrongFalsely : Prop := locksFreesRow.holds Try.pinned (OpenSpec.ofChange locksFreesWrong)

/-- 'dormouselaw13.LocksNone': WHATEVER THE INPUT: true; the input reads as it did. -/
def locksNoneSpec : ChangeSpec := { name := "locksNone", fn := fun _ => fun
  | [d1, d2, d3, d4] => { results := [.lit (.bool true)], args := [d1, d2, d3, d4] }
  | _ => none }
def locksNoneRow : OpenClaim := { program := "ytlcbgkicooeklaa", sum := "80fa4b8f7544ffac0fed12193c73bad5e79327992b1e25cf4283e7826aed6664", func := "dormouse/dormouselaw13.LocksNone", spec := "locksNone", unfollowed := true, recurses := true, apart := false }
def LocksNoneSaid : Prop := locksNoneRow.holds Try.pinned (OpenSpec.ofChange locksNoneSpec)

/-- ITS FALSE NEIGHBOUR: 'it returns false'. Refute it at one input. -/
def locksNoneWrong : ChangeSpec := { name := "locksNone", fn := fun _ => fun
  | [d1, d2, d3, d4] => { results := [.lit (.bool false)], args := [d1, d2, d3, d4] }
  | _ => none }
def LocksNoneWrongFalsely : Prop := locksNoneRow.holds Try.pinned (OpenSpec.ofChange locksNoneWrong)

/- THE SECOND FORM. 'bulk': how many values and letters a reading holds, each counted each time it is reached (what is shared counts as often as it is met; a slice's spare places count too). A statement '..UptoSaid' is the law's where the arguments, and the package variables that the reading takes, are together of bulk at most 1048576: NARROWER than '..Said'. Prove '..Said' where nothing that the law and all that it calls make is longer than what came in: it says more and counts as full. Else prove '..UptoSaid'. A law counts once. -/
mutual
def uptoBulk {H : Type} : DataW H → Nat
  | .lit (.string bytes) => bytes.length + 1
  | .lit _ => 1
  | .nil => 1
  | .ptr d => uptoBulk d + 1
  | .slice elems spare => uptoBulkAll elems + uptoBulkAll spare + 1
  | .agg parts => uptoBulkAll parts + 1
  | .iface _ d => uptoBulk d + 1
  | .map entries => uptoBulkEntries entries + 1
  | .held _ => 1
def uptoBulkAll {H : Type} : List (DataW H) → Nat
  | [] => 0
  | d :: r => uptoBulk d + uptoBulkAll r
def uptoBulkEntries {H : Type} : List (Lit × DataW H) → Nat
  | [] => 0
  | x :: r => uptoBulkEntry x + uptoBulkEntries r
def uptoBulkEntry {H : Type} : Lit × DataW H → Nat
  | (.string bytes, d) => bytes.length + uptoBulk d + 1
  | (_, d) => uptoBulk d + 1
 end
def uptoSmall : (H : Type) → List (DataW H) → Bool := fun _ ds => decide (uptoBulkAll ds ≤ 1048576)
def OpenSpec.upto (s : _root_.Go.ChangeSpec) : _root_.Go.OpenSpec := { _root_.Go.OpenSpec.ofChange s with cond := some uptoSmall }

/-- 'dormouselaw13.LocksPlays', WHERE WHAT IT READS IS OF BULK AT MOST 1048576: true; the input reads as it did. -/
def locksPlaysUptoRow : OpenClaim := { program := "ytlcbgkicooeklaa", sum := "80fa4b8f7544ffac0fed12193c73bad5e79327992b1e25cf4283e7826aed6664", func := "dormouse/dormouselaw13.LocksPlays", spec := "locksPlays", unfollowed := true, recurses := true, apart := false, narrowed := true }
def LocksPlaysUptoSaid : Prop := locksPlaysUptoRow.holds Try.pinned (OpenSpec.upto locksPlaysSpec)

/-- 'dormouselaw13.LocksNests', WHERE WHAT IT READS IS OF BULK AT MOST 1048576: true; the input reads as it did. -/
def locksNestsUptoRow : OpenClaim := { program := "ytlcbgkicooeklaa", sum := "80fa4b8f7544ffac0fed12193c73bad5e79327992b1e25cf4283e7826aed6664", func := "dormouse/dormouselaw13.LocksNests", spec := "locksNests", unfollowed := true, recurses := true, apart := false, narrowed := true }
def LocksNestsUptoSaid : Prop := locksNestsUptoRow.holds Try.pinned (OpenSpec.upto locksNestsSpec)

/-- 'dormouselaw13.LocksOver', WHERE WHAT IT READS IS OF BULK AT MOST 1048576: true; the input reads as it did. -/
def locksOverUptoRow : OpenClaim := { program := "ytlcbgkicooeklaa", sum := "80fa4b8f7544ffac0fed12193c73bad5e79327992b1e25cf4283e7826aed6664", func := "dormouse/dormouselaw13.LocksOver", spec := "locksOver", unfollowed := true, recurses := true, apart := false, narrowed := true }
def LocksOverUptoSaid : Prop := locksOverUptoRow.holds Try.pinned (OpenSpec.upto locksOverSpec)

/-- 'dormouselaw13.LocksFrees', WHERE WHAT IT READS IS OF BULK AT MOST 1048576: true; the input reads as it did. -/
def locksFreesUptoRow : OpenClaim := { program := "ytlcbgkicooeklaa", sum := "80fa4b8f7544ffac0fed12193c73bad5e79327992b1e25cf4283e7826aed6664", func := "dormouse/dormouselaw13.LocksFrees", spec := "locksFrees", unfollowed := true, recurses := true, apart := false, narrowed := true }
def LocksFreesUptoSaid : Prop := locksFreesUptoRow.holds Try.pinned (OpenSpec.upto locksFreesSpec)

/-- 'dormouselaw13.LocksNone', WHERE WHAT IT READS IS OF BULK AT MOST 1048576: true; the input reads as it did. -/
def locksNoneUptoRow : OpenClaim := { program := "ytlcbgkicooeklaa", sum := "80fa4b8f7544ffac0fed12193c73bad5e79327992b1e25cf4283e7826aed6664", func := "dormouse/dormouselaw13.LocksNone", spec := "locksNone", unfollowed := true, recurses := true, apart := false, narrowed := true }
def LocksNoneUptoSaid : Prop := locksNoneUptoRow.holds Try.pinned (OpenSpec.upto locksNoneSpec)

end Rows
end Go.Proofs.Ytlcbgkicooeklaa
