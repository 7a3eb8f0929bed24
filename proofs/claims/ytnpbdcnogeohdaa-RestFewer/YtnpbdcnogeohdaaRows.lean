/-
  No cell of these rows narrows 'for every input' (looked for: loops, veiled, ifaces, maps, wideKeys, modest, calm, conditions, laid).
  DERIVED. THE GIVEN ROWS OF THIS SEAT. 3 by the template 'for every input the law returns true; each argument reads behind the call as it read before'; 0 by the template 'total and deterministic' (their statements: YtnpbdcnogeohdaaTotals.lean).
  GIVEN WITH THE SEED: the statements are not yours to turn. If you find one false, say at which input.
  Laid BY PROGRAM, IN A SANDBOX (cutbox-rows.mjs): the forced cells as the released guide's own fill.sh prints them over the translation 78b2a9b4ab1a38a2… (all of the seat's roots in one cut). By AI agents, Wed Nov 11 2026. No macro, syntax, notation, axiom, sorry.
-/
import Derived.Test.YtnpbdcnogeohdaaChecked
import GoSem.Claim
import GoSem.ClaimJoined
import GoSem.ClaimMapViews
import Derived.JoinedTies
import Derived.KernelRfl
namespace Go.Proofs.Ytnpbdcnogeohdaa
/- THE CELL 'sum', in the pinned program and in every row, IS THE sha256 OF THE DUMP (.gsa) THAT YtnpbdcnogeohdaaProg.lean LOADS. Nothing in Lean hashes anything: it is a label: what it is worth is what the hold of that sum in a sandbox is worth. -/
noncomputable def Try.pinned : Pinned := { name := "ytnpbdcnogeohdaa", sum := "78b2a9b4ab1a38a23f2f9b1656097f62616cc7938f5d5c533ab6b2774f084346", checked := Try.checked }
namespace Rows
def none {H : Type} : Left H := { results := [], args := [] }

/-- 'dormouselaw17.RestReady': WHATEVER THE INPUT: true; the input reads as it did. -/
def restReadySpec : ChangeSpec := { name := "restReady", fn := fun _ => fun
  | [d] => { results := [.lit (.bool true)], args := [d] }
  | _ => none }
def restReadyRow : OpenClaim := { program := "ytnpbdcnogeohdaa", sum := "78b2a9b4ab1a38a23f2f9b1656097f62616cc7938f5d5c533ab6b2774f084346", func := "dormouse/dormouselaw17.RestReady", spec := "restReady", unfollowed := true, recurses := true, apart := false }
def RestReadySaid : Prop := restReadyRow.holds Try.pinned (OpenSpec.ofChange restReadySpec)

/-- ITS FALSE NEIGHBOUR: 'it returns false'. Refute it at one input. -/
def restReadyWrong : ChangeSpec := { name := "restReady", fn := fun _ => fun
  | [d] => { results := [.lit (.bool false)], args := [d] }
  | _ => none }
def RestReadyWrongFalsely : Prop := restReadyRow.holds Try.pinned (OpenSpec.ofChange restReadyWrong)

/-- 'dormouselaw17.RestTime': WHATEVER THE INPUT: true; the input reads as it did. -/
def restTimeSpec : ChangeSpec := { name := "restTime", fn := fun _ => fun
  | [d] => { results := [.lit (.bool true)], args := [d] }
  | _ => none }
def restTimeRow : OpenClaim := { program := "ytnpbdcnogeohdaa", sum := "78b2a9b4ab1a38a23f2f9b1656097f62616cc7938f5d5c533ab6b2774f084346", func := "dormouse/dormouselaw17.RestTime", spec := "restTime", unfollowed := true, recurses := true, apart := false }
def RestTimeSaid : Prop := restTimeRow.holds Try.pinned (OpenSpec.ofChange restTimeSpec)

/-- ITS FALSE NEIGHBOUR: 'it returns false'. Refute it at one input. -/
def restTimeWrong : ChangeSpec := { name := "restTime", fn := fun _ => fun
  | [d] => { results := [.lit (.bool false)], args := [d] }
  | _ => none }
def RestTimeWrongFalsely : Prop := restTimeRow.holds Try.pinned (OpenSpec.ofChange restTimeWrong)

/-- 'dormouselaw17.RestFewer': WHATEVER THE INPUT: true; the input reads as it did. -/
def restFewerSpec : ChangeSpec := { name := "restFewer", fn := fun _ => fun
  | [d1, d2] => { results := [.lit (.bool true)], args := [d1, d2] }
  | _ => none }
def restFewerRow : OpenClaim := { program := "ytnpbdcnogeohdaa", sum := "78b2a9b4ab1a38a23f2f9b1656097f62616cc7938f5d5c533ab6b2774f084346", func := "dormouse/dormouselaw17.RestFewer", spec := "restFewer", unfollowed := true, recurses := true, apart := false }
def RestFewerSaid : Prop := restFewerRow.holds Try.pinned (OpenSpec.ofChange restFewerSpec)

/-- ITS FALSE NEIGHBOUR: 'it returns false'. Refute it at one input. -/
def restFewerWrong : ChangeSpec := { name := "restFewer", fn := fun _ => fun
  | [d1, d2] => { results := [.lit (.bool false)], args := [d1, d2] }
  | _ => none }
def RestFewerWrongFalsely : Prop := restFewerRow.holds Try.pinned (OpenSpec.ofChange restFewerWrong)

/- THE SECOND FORM. 'bulk': how many values and letters a reading holds, each counted each time it is reached (what is shared counts as often as it is met; a slice's spare places count too). A statement '..UptoSaid' is the law's where the arguments, and the package variables that the reading takes, are together of bulk at most 1048576: NARROWER than '..Said'. Prove '..Said' where nothing that the law and all that it calls make is longer than what came in: it says more and counts as full. Else prove '..UptoSaid'. A law counts once. -/
mutual
def uptoBulk {H : Type} : DataW H → Nat
  | .lit (.string bytes) => bytes.length + 1
  | .lit _ => 1
  | .nil => 1
  | .ptr d => uptoBulk d + 1
  | .slice elems spare => uptoBulkAll elems + uptoBulkAll spare + 1
  | .agg parts => uptoBulkAll parts + 1
  | .iface _ d => uptoBulk d + 1
  | .map entries => uptoBulkEntries entries + 1
  | .held _ => 1
def uptoBulkAll {H : Type} : List (DataW H) → Nat
  | [] => 0
  | d :: r => uptoBulk d + uptoBulkAll r
def uptoBulkEntries {H : Type} : List (Lit × DataW H) → Nat
  | [] => 0
  | x :: r => uptoBulkEntry x + uptoBulkEntries r
def uptoBulkEntry {H : Type} : Lit × DataW H → Nat
  | (.string bytes, d) => bytes.length + uptoBulk d + 1
  | (_, d) => uptoBulk d + 1
 end
def uptoSmall : (H : Type) → List (DataW H) → Bool := fun _ ds => decide (uptoBulkAll ds ≤ 1048576)
def OpenSpec.upto (s : _root_.Go.ChangeSpec) : _root_.Go.OpenSpec := { _root_.Go.OpenSpec.ofChange s with cond := some uptoSmall }

/-- 'dormouselaw17.RestReady', WHERE WHAT IT READS IS OF BULK AT MOST 1048576: true; the input reads as it did. -/
def restReadyUptoRow : OpenClaim := { program := "ytnpbdcnogeohdaa", sum := "78b2a9b4ab1a38a23f2f9b1656097f62616cc7938f5d5c533ab6b2774f084346", func := "dormouse/dormouselaw17.RestReady", spec := "restReady", unfollowed := true, recurses := true, apart := false, narrowed := true }
def RestReadyUptoSaid : Prop := restReadyUptoRow.holds Try.pinned (OpenSpec.upto restReadySpec)

/-- 'dormouselaw17.RestTime', WHERE WHAT IT READS IS OF BULK AT MOST 1048576: true; the input reads as it did. -/
def restTimeUptoRow : OpenClaim := { program := "ytnpbdcnogeohdaa", sum := "78b2a9b4ab1a38a23f2f9b1656097f62616cc7938f5d5c533ab6b2774f084346", func := "dormouse/dormouselaw17.RestTime", spec := "restTime", unfollowed := true, recurses := true, apart := false, narrowed := true }
def RestTimeUptoSaid : Prop := restTimeUptoRow.holds Try.pinned (OpenSpec.upto restTimeSpec)

/-- 'dormouselaw17.RestFewer', WHERE WHAT IT READS IS OF BULK AT MOST 1048576: true; the input reads as it did. -/
def restFewerUptoRow : OpenClaim := { program := "ytnpbdcnogeohdaa", sum := "78b2a9b4ab1a38a23f2f9b1656097f62616cc7938f5d5c533ab6b2774f084346", func := "dormouse/dormouselaw17.RestFewer", spec := "restFewer", unfollowed := true, recurses := true, apart := false, narrowed := true }
def RestFewerUptoSaid : Prop := restFewerUptoRow.holds Try.pinned (OpenSpec.upto restFewerSpec)

end Rows
end Go.Proofs.Ytnpbdcnogeohdaa
