/-
  No cell of these rows narrows 'for every input' (looked for: loops, veiled, ifaces, maps, wideKeys, modest, calm, conditions, laid).
  DERIVED. THE GIVEN ROWS OF THIS SEAT. 5 by the template 'for every input the law returns true; each argument reads behind the call as it read before'; 0 by the template 'total and deterministic' (their statements: YtbgpojhdkmhcbaaTotals.lean).
  GIVEN WITH THE SEED: the statements are not yours to turn. If you find one false, say at which input.
  Laid BY PROGRAM, IN A SANDBOX (cutbox-rows.mjs): the forced cells as the released guide's own fill.sh prints them over the translation 593d483faa9408e8… (all of the seat's roots in one cut). By AI agents, Wed Nov 11 2026. No macro, syntax, notation, axiom, sorry.
-/
import Derived.Test.YtbgpojhdkmhcbaaChecked
import GoSem.Claim
import GoSem.ClaimJoined
import GoSem.ClaimMapViews
import Derived.JoinedTies
import Derived.KernelRfl
namespace Go.Proofs.Ytbgpojhdkmhcbaa
/- THE CELL 'sum', in the pinned program and in every row, IS THE sha256 OF THE DUMP (.gsa) THAT YtbgpojhdkmhcbaaProg.lean LOADS. Nothing in Lean hashes anything: it is a label: what it is worth is what the hold of that sum in a sandbox is worth. -/
noncomputable def Try.pinned : Pinned := { name := "ytbgpojhdkmhcbaa", sum := "593d483faa9408e8a1eb5f287b992b19681441e800dde9639809b058331f4a5c", checked := Try.checked }
namespace Rows
def none {H : Type} : Left H := { results := [], args := [] }

/-- 'dormouselaw06.TraceAdds': WHATEVER THE INPUT: true; the input reads as it did. -/
def traceAddsSpec : ChangeSpec := { name := "traceAdds", fn := fun _ => fun
  | [d] => { results := [.lit (.bool true)], args := [d] }
  | _ => none }
def traceAddsRow : OpenClaim := { program := "ytbgpojhdkmhcbaa", sum := "593d483faa9408e8a1eb5f287b992b19681441e800dde9639809b058331f4a5c", func := "dormouse/dormouselaw06.TraceAdds", spec := "traceAdds", apart := false }
def TraceAddsSaid : Prop := traceAddsRow.holds Try.pinned (OpenSpec.ofChange traceAddsSpec)

/-- ITS FALSE NEIGHBOUR: 'it returns false'. Refute it at one input. -/
def traceAddsWrong : ChangeSpec := { name := "traceAdds", fn := fun _ => fun
  | [d] => { results := [.lit (.bool false)], args := [d] }
  | _ => none }
def TraceAddsWrongFalsely : Prop := traceAddsRow.holds Try.pinned (OpenSpec.ofChange traceAddsWrong)

/-- 'dormouselaw06.TraceJoin': WHATEVER THE INPUT: true; the input reads as it did. -/
def traceJoinSpec : ChangeSpec := { name := "traceJoin", fn := fun _ => fun
  | [d1, d2] => { results := [.lit (.bool true)], args := [d1, d2] }
  | _ => none }
def traceJoinRow : OpenClaim := { program := "ytbgpojhdkmhcbaa", sum := "593d483faa9408e8a1eb5f287b992b19681441e800dde9639809b058331f4a5c", func := "dormouse/dormouselaw06.TraceJoin", spec := "traceJoin", apart := false }
def TraceJoinSaid : Prop := traceJoinRow.holds Try.pinned (OpenSpec.ofChange traceJoinSpec)

/-- ITS FALSE NEIGHBOUR: 'it returns false'. Refute it at one input. -/
def traceJoinWrong : ChangeSpec := { name := "traceJoin", fn := fun _ => fun
  | [d1, d2] => { results := [.lit (.bool false)], args := [d1, d2] }
  | _ => none }
def TraceJoinWrongFalsely : Prop := traceJoinRow.holds Try.pinned (OpenSpec.ofChange traceJoinWrong)

/-- 'dormouselaw06.TraceWhole': WHATEVER THE INPUT: true; the input reads as it did. -/
def traceWholeSpec : ChangeSpec := { name := "traceWhole", fn := fun _ => fun
  | [d] => { results := [.lit (.bool true)], args := [d] }
  | _ => none }
def traceWholeRow : OpenClaim := { program := "ytbgpojhdkmhcbaa", sum := "593d483faa9408e8a1eb5f287b992b19681441e800dde9639809b058331f4a5c", func := "dormouse/dormouselaw06.TraceWhole", spec := "traceWhole", apart := false }
def TraceWholeSaid : Prop := traceWholeRow.holds Try.pinned (OpenSpec.ofChange traceWholeSpec)

/-- ITS FALSE NEIGHBOUR: 'it returns false'. Refute it at one input. -/
def traceWholeWrong : ChangeSpec := { name := "traceWhole", fn := fun _ => fun
  | [d] => { results := [.lit (.bool false)], args := [d] }
  | _ => none }
def TraceWholeWrongFalsely : Prop := traceWholeRow.holds Try.pinned (OpenSpec.ofChange traceWholeWrong)

/-- 'dormouselaw06.TraceOwn': WHATEVER THE INPUT: true; the input reads as it did. -/
def traceOwnSpec : ChangeSpec := { name := "traceOwn", fn := fun _ => fun
  | [d] => { results := [.lit (.bool true)], args := [d] }
  | _ => none }
def traceOwnRow : OpenClaim := { program := "ytbgpojhdkmhcbaa", sum := "593d483faa9408e8a1eb5f287b992b19681441e800dde9639809b058331f4a5c", func := "dormouse/dormouselaw06.TraceOwn", spec := "traceOwn", apart := false }
def TraceOwnSaid : Prop := traceOwnRow.holds Try.pinned (OpenSpec.ofChange traceOwnSpec)

/-- ITS FALSE NEIGHBOUR: 'it returns false'. Refute it at one input. -/
def traceOwnWrong : ChangeSpec := { name := "traceOwn", fn := fun _ => fun
  | [d] => { results := [.lit (.bool false)], args := [d] }
  | _ => none }
def TraceOwnWrongFalsely : Prop := traceOwnRow.holds Try.pinned (OpenSpec.ofChange traceOwnWrong)

/-- 'dormouselaw06.TraceNone': WHATEVER THE INPUT: true; the input reads as it did. -/
def traceNoneSpec : ChangeSpec := { name := "traceNone", fn := fun _ => fun
  | [d] => { results := [.lit (.bool true)], args := [d] }
  | _ => none }
def traceNoneRow : OpenClaim := { program := "ytbgpojhdkmhcbaa", sum := "593d483faa9408e8a1eb5f287b992b19681441e800dde9639809b058331f4a5c", func := "dormouse/dormouselaw06.TraceNone", spec := "traceNone", apart := false }
def TraceNoneSaid : Prop := traceNoneRow.holds Try.pinned (OpenSpec.ofChange traceNoneSpec)

/-- ITS FALSE NEIGHBOUR: 'it returns false'. Refute it at one input. -/
def traceNoneWrong : ChangeSpec := { name := "traceNone", fn := fun _ => fun
  | [d] => { results := [.lit (.bool false)], args := [d] }
  | _ => none }
def TraceNoneWrongFalsely : Prop := traceNoneRow.holds Try.pinned (OpenSpec.ofChange traceNoneWrong)

/- THE SECOND FORM. 'bulk': how many values and letters a reading holds, each counted each time it is reached (what is shared counts as often as it is met; a slice's spare places count too). A statement '..UptoSaid' is the law's where the arguments, and the package variables that the reading takes, are together of bulk at most 1048576: NARROWER than '..Said'. Prove '..Said' where nothing that the law and all that it calls make is longer than what came in: it says more and counts as full. Else prove '..UptoSaid'. A law counts once. -/
mutual
def uptoBulk {H : Type} : DataW H → Nat
  | .lit (.string bytes) => bytes.length + 1
  | .lit _ => 1
  | .nil => 1
  | .ptr d => uptoBulk d + 1
  | .slice elems spare => uptoBulkAll elems + uptoBulkAll spare + 1
  | .agg parts => uptoBulkAll parts + 1
  | .iface _ d => uptoBulk d + 1
  | .map entries => uptoBulkEntries entries + 1
  | .held _ => 1
def uptoBulkAll {H : Type} : List (DataW H) → Nat
  | [] => 0
  | d :: r => uptoBulk d + uptoBulkAll r
def uptoBulkEntries {H : Type} : List (Lit × DataW H) → Nat
  | [] => 0
  | x :: r => uptoBulkEntry x + uptoBulkEntries r
def uptoBulkEntry {H : Type} : Lit × DataW H → Nat
  | (.string bytes, d) => bytes.length + uptoBulk d + 1
  | (_, d) => uptoBulk d + 1
 end
def uptoSmall : (H : Type) → List (DataW H) → Bool := fun _ ds => decide (uptoBulkAll ds ≤ 1048576)
def OpenSpec.upto (s : _root_.Go.ChangeSpec) : _root_.Go.OpenSpec := { _root_.Go.OpenSpec.ofChange s with cond := some uptoSmall }

/-- 'dormouselaw06.TraceAdds', WHERE WHAT IT READS IS OF BULK AT MOST 1048576: true; the input reads as it did. -/
def traceAddsUptoRow : OpenClaim := { program := "ytbgpojhdkmhcbaa", sum := "593d483faa9408e8a1eb5f287b992b19681441e800dde9639809b058331f4a5c", func := "dormouse/dormouselaw06.TraceAdds", spec := "traceAdds", apart := false, narrowed := true }
def TraceAddsUptoSaid : Prop := traceAddsUptoRow.holds Try.pinned (OpenSpec.upto traceAddsSpec)

/-- 'dormouselaw06.TraceJoin', WHERE WHAT IT READS IS OF BULK AT MOST 1048576: true; the input reads as it did. -/
def traceJoinUptoRow : OpenClaim := { program := "ytbgpojhdkmhcbaa", sum := "593d483faa9408e8a1eb5f287b992b19681441e800dde9639809b058331f4a5c", func := "dormouse/dormouselaw06.TraceJoin", spec := "traceJoin", apart := false, narrowed := true }
def TraceJoinUptoSaid : Prop := traceJoinUptoRow.holds Try.pinned (OpenSpec.upto traceJoinSpec)

/-- 'dormouselaw06.TraceWhole', WHERE WHAT IT READS IS OF BULK AT MOST 1048576: true; the input reads as it did. -/
def traceWholeUptoRow : OpenClaim := { program := "ytbgpojhdkmhcbaa", sum := "593d483faa9408e8a1eb5f287b992b19681441e800dde9639809b058331f4a5c", func := "dormouse/dormouselaw06.TraceWhole", spec := "traceWhole", apart := false, narrowed := true }
def TraceWholeUptoSaid : Prop := traceWholeUptoRow.holds Try.pinned (OpenSpec.upto traceWholeSpec)

/-- 'dormouselaw06.TraceOwn', WHERE WHAT IT READS IS OF BULK AT MOST 1048576: true; the input reads as it did. -/
def traceOwnUptoRow : OpenClaim := { program := "ytbgpojhdkmhcbaa", sum := "593d483faa9408e8a1eb5f287b992b19681441e800dde9639809b058331f4a5c", func := "dormouse/dormouselaw06.TraceOwn", spec := "traceOwn", apart := false, narrowed := true }
def TraceOwnUptoSaid : Prop := traceOwnUptoRow.holds Try.pinned (OpenSpec.upto traceOwnSpec)

/-- 'dormouselaw06.TraceNone', WHERE WHAT IT READS IS OF BULK AT MOST 1048576: true; the input reads as it did. -/
def traceNoneUptoRow : OpenClaim := { program := "ytbgpojhdkmhcbaa", sum := "593d483faa9408e8a1eb5f287b992b19681441e800dde9639809b058331f4a5c", func := "dormouse/dormouselaw06.TraceNone", spec := "traceNone", apart := false, narrowed := true }
def TraceNoneUptoSaid : Prop := traceNoneUptoRow.holds Try.pinned (OpenSpec.upto traceNoneSpec)

end Rows
end Go.Proofs.Ytbgpojhdkmhcbaa
