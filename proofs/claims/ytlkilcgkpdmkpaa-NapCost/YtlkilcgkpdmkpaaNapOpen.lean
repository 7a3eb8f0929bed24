/- Structs of whole numbers as arguments: what the values are. -/
import Derived.Test.YtlkilcgkpdmkpaaRows
import Derived.Test.YtlkilcgkpdmkpaaArgs
import Derived.WalkKit
import Derived.ProofKit
import Derived.OpenShut
namespace Go.Proofs.Ytlkilcgkpdmkpaa.NP
open Go.ChangeShapes Go.WideShapes Go.ChangeAt Go.RowKit Go.Proofs.Ytlkilcgkpdmkpaa.AR

theorem cells_int : Try.prog.cellsOf 3 = 1 := by kernel_rfl

theorem cells_open_sl : Try.prog.cellsOf 23 = 6 := by kernel_rfl

theorem list6 {α : Type} {l : List α} (h : l.length = 6) : ∃ a0 a1 a2 a3 a4 a5, l = [a0, a1, a2, a3, a4, a5] := by
  match l, h with
  | [a0, a1, a2, a3, a4, a5], _ => exact ⟨a0, a1, a2, a3, a4, a5, rfl⟩

theorem array6 {α : Type} {a : Array α} (h : a.size = 6) : ∃ a0 a1 a2 a3 a4 a5, a = #[a0, a1, a2, a3, a4, a5] := by
  obtain ⟨l⟩ := a
  obtain ⟨a0, a1, a2, a3, a4, a5, rfl⟩ := list6 (l := l) h
  exact ⟨a0, a1, a2, a3, a4, a5, rfl⟩

section
variable {H : Type} {enc : TypeId × Value → H} {W : World} {base : Nat} {spare : Nat → Bool} {held : Bool}

theorem open_num {n : Nat} {c : Value} {x : DataW H × List MemPlace} (h : DataW.trod enc Try.prog W base spare held n 3 [c] = some x) : ∃ y : Int, c = .int .i64 y := by
  obtain ⟨y, hy, _⟩ := DataW.trod_int Try.underlying3 h
  simp only [List.cons.injEq, and_true] at hy
  exact ⟨y, hy⟩

theorem open_sl {r : Reach} {b0 : Nat} {v : Value} {d : DataW H} {p : List MemPlace} (hv : Value.okWide Try.prog W r b0 23 v) (h : DataW.Trod enc Try.prog W base spare held 23 v d p) :
    ∃ power enter exit enterE exitE even, v = .agg #[.int .i64 power, .int .i64 enter, .int .i64 exit, .int .i64 enterE, .int .i64 exitE, .int .i64 even] := by
  obtain ⟨cs, rfl, hsz⟩ := okWide_struct Try.underlying23 hv
  obtain ⟨c0, c1, c2, c3, c4, c5, rfl⟩ := array6 (hsz.trans cells_open_sl)
  obtain ⟨fuel, hf⟩ := h
  obtain ⟨xs, n, _, _, _, hxl, hall⟩ := DataW.trod_struct Try.underlying23 hf
  obtain ⟨x0, x1, x2, x3, x4, x5, rfl⟩ := list6 (l := xs) hxl
  have f0 : DataW.trod enc Try.prog W base spare held n 3 [c0] = some x0 := by have h' : DataW.trod enc Try.prog W base spare held n 3 (([c0, c1, c2, c3, c4, c5].drop 0).take (Try.prog.cellsOf 3)) = some x0 := hall 0 _ rfl; rw [cells_int] at h'; exact h'
  have f1 : DataW.trod enc Try.prog W base spare held n 3 [c1] = some x1 := by have h' : DataW.trod enc Try.prog W base spare held n 3 (([c0, c1, c2, c3, c4, c5].drop 1).take (Try.prog.cellsOf 3)) = some x1 := hall 1 _ rfl; rw [cells_int] at h'; exact h'
  have f2 : DataW.trod enc Try.prog W base spare held n 3 [c2] = some x2 := by have h' : DataW.trod enc Try.prog W base spare held n 3 (([c0, c1, c2, c3, c4, c5].drop 2).take (Try.prog.cellsOf 3)) = some x2 := hall 2 _ rfl; rw [cells_int] at h'; exact h'
  have f3 : DataW.trod enc Try.prog W base spare held n 3 [c3] = some x3 := by have h' : DataW.trod enc Try.prog W base spare held n 3 (([c0, c1, c2, c3, c4, c5].drop 3).take (Try.prog.cellsOf 3)) = some x3 := hall 3 _ rfl; rw [cells_int] at h'; exact h'
  have f4 : DataW.trod enc Try.prog W base spare held n 3 [c4] = some x4 := by have h' : DataW.trod enc Try.prog W base spare held n 3 (([c0, c1, c2, c3, c4, c5].drop 4).take (Try.prog.cellsOf 3)) = some x4 := hall 4 _ rfl; rw [cells_int] at h'; exact h'
  have f5 : DataW.trod enc Try.prog W base spare held n 3 [c5] = some x5 := by have h' : DataW.trod enc Try.prog W base spare held n 3 (([c0, c1, c2, c3, c4, c5].drop 5).take (Try.prog.cellsOf 3)) = some x5 := hall 5 _ rfl; rw [cells_int] at h'; exact h'
  obtain ⟨y0, rfl⟩ := open_num f0
  obtain ⟨y1, rfl⟩ := open_num f1
  obtain ⟨y2, rfl⟩ := open_num f2
  obtain ⟨y3, rfl⟩ := open_num f3
  obtain ⟨y4, rfl⟩ := open_num f4
  obtain ⟨y5, rfl⟩ := open_num f5
  exact ⟨y0, y1, y2, y3, y4, y5, rfl⟩

end

end Go.Proofs.Ytlkilcgkpdmkpaa.NP
