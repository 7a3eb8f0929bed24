/- An interval and a meter as arguments: what the value is. -/
import Derived.Test.YtoinbdjjimfdgaaOpen
import Derived.Test.YtoinbdjjimfdgaaMetAt
namespace Go.Proofs.Ytoinbdjjimfdgaa.MT
open Go.ChangeShapes Go.WideShapes Go.ChangeAt Go.RowKit Go.Proofs.Ytoinbdjjimfdgaa.AR Go.Proofs.Ytoinbdjjimfdgaa.TB

theorem cells_iv : Try.prog.cellsOf 28 = 6 := by kernel_rfl
theorem cells_mv : Try.prog.cellsOf 36 = 4 := by kernel_rfl

theorem list6 {α : Type} {l : List α} (h : l.length = 6) : ∃ a0 a1 a2 a3 a4 a5, l = [a0, a1, a2, a3, a4, a5] := by
  match l, h with
  | [a0, a1, a2, a3, a4, a5], _ => exact ⟨a0, a1, a2, a3, a4, a5, rfl⟩

theorem list4 {α : Type} {l : List α} (h : l.length = 4) : ∃ a0 a1 a2 a3, l = [a0, a1, a2, a3] := by
  match l, h with
  | [a0, a1, a2, a3], _ => exact ⟨a0, a1, a2, a3, rfl⟩

theorem array6 {α : Type} {a : Array α} (h : a.size = 6) : ∃ a0 a1 a2 a3 a4 a5, a = #[a0, a1, a2, a3, a4, a5] := by
  obtain ⟨l⟩ := a
  obtain ⟨a0, a1, a2, a3, a4, a5, rfl⟩ := list6 (l := l) h
  exact ⟨a0, a1, a2, a3, a4, a5, rfl⟩

theorem array4 {α : Type} {a : Array α} (h : a.size = 4) : ∃ a0 a1 a2 a3, a = #[a0, a1, a2, a3] := by
  obtain ⟨l⟩ := a
  obtain ⟨a0, a1, a2, a3, rfl⟩ := list4 (l := l) h
  exact ⟨a0, a1, a2, a3, rfl⟩

section
variable {H : Type} {enc : TypeId × Value → H} {W : World} {base : Nat} {spare : Nat → Bool} {held : Bool}

theorem open_iv {r : Reach} {b0 : Nat} {v : Value} {d : DataW H} {p : List MemPlace} (hv : Value.okWide Try.prog W r b0 28 v) (h : DataW.Trod enc Try.prog W base spare held 28 v d p) :
    ∃ kind frm len arg task cyc, v = iv kind frm len arg task cyc := by
  obtain ⟨cs, rfl, hsz⟩ := okWide_struct Try.underlying28 hv
  obtain ⟨c0, c1, c2, c3, c4, c5, rfl⟩ := array6 (hsz.trans cells_iv)
  obtain ⟨fuel, hf⟩ := h
  obtain ⟨xs, n, _, _, _, hxl, hall⟩ := DataW.trod_struct Try.underlying28 hf
  obtain ⟨x0, x1, x2, x3, x4, x5, rfl⟩ := list6 (l := xs) hxl
  have f0 : DataW.trod enc Try.prog W base spare held n 3 [c0] = some x0 := by have h' : DataW.trod enc Try.prog W base spare held n 3 (([c0, c1, c2, c3, c4, c5].drop 0).take (Try.prog.cellsOf 3)) = some x0 := hall 0 _ rfl; rw [cells_int] at h'; exact h'
  have f1 : DataW.trod enc Try.prog W base spare held n 3 [c1] = some x1 := by have h' : DataW.trod enc Try.prog W base spare held n 3 (([c0, c1, c2, c3, c4, c5].drop 1).take (Try.prog.cellsOf 3)) = some x1 := hall 1 _ rfl; rw [cells_int] at h'; exact h'
  have f2 : DataW.trod enc Try.prog W base spare held n 3 [c2] = some x2 := by have h' : DataW.trod enc Try.prog W base spare held n 3 (([c0, c1, c2, c3, c4, c5].drop 2).take (Try.prog.cellsOf 3)) = some x2 := hall 2 _ rfl; rw [cells_int] at h'; exact h'
  have f3 : DataW.trod enc Try.prog W base spare held n 3 [c3] = some x3 := by have h' : DataW.trod enc Try.prog W base spare held n 3 (([c0, c1, c2, c3, c4, c5].drop 3).take (Try.prog.cellsOf 3)) = some x3 := hall 3 _ rfl; rw [cells_int] at h'; exact h'
  have f4 : DataW.trod enc Try.prog W base spare held n 3 [c4] = some x4 := by have h' : DataW.trod enc Try.prog W base spare held n 3 (([c0, c1, c2, c3, c4, c5].drop 4).take (Try.prog.cellsOf 3)) = some x4 := hall 4 _ rfl; rw [cells_int] at h'; exact h'
  have f5 : DataW.trod enc Try.prog W base spare held n 3 [c5] = some x5 := by have h' : DataW.trod enc Try.prog W base spare held n 3 (([c0, c1, c2, c3, c4, c5].drop 5).take (Try.prog.cellsOf 3)) = some x5 := hall 5 _ rfl; rw [cells_int] at h'; exact h'
  obtain ⟨y0, rfl⟩ := open_num f0
  obtain ⟨y1, rfl⟩ := open_num f1
  obtain ⟨y2, rfl⟩ := open_num f2
  obtain ⟨y3, rfl⟩ := open_num f3
  obtain ⟨y4, rfl⟩ := open_num f4
  obtain ⟨y5, rfl⟩ := open_num f5
  exact ⟨y0, y1, y2, y3, y4, y5, rfl⟩

theorem open_mv {r : Reach} {b0 : Nat} {v : Value} {d : DataW H} {p : List MemPlace} (hv : Value.okWide Try.prog W r b0 36 v) (h : DataW.Trod enc Try.prog W base spare held 36 v d p) :
    ∃ a b c e, v = mv a b c e := by
  obtain ⟨cs, rfl, hsz⟩ := okWide_struct Try.underlying36 hv
  obtain ⟨c0, c1, c2, c3, rfl⟩ := array4 (hsz.trans cells_mv)
  obtain ⟨fuel, hf⟩ := h
  obtain ⟨xs, n, _, _, _, hxl, hall⟩ := DataW.trod_struct Try.underlying36 hf
  obtain ⟨x0, x1, x2, x3, rfl⟩ := list4 (l := xs) hxl
  have f0 : DataW.trod enc Try.prog W base spare held n 3 [c0] = some x0 := by have h' : DataW.trod enc Try.prog W base spare held n 3 (([c0, c1, c2, c3].drop 0).take (Try.prog.cellsOf 3)) = some x0 := hall 0 _ rfl; rw [cells_int] at h'; exact h'
  have f1 : DataW.trod enc Try.prog W base spare held n 3 [c1] = some x1 := by have h' : DataW.trod enc Try.prog W base spare held n 3 (([c0, c1, c2, c3].drop 1).take (Try.prog.cellsOf 3)) = some x1 := hall 1 _ rfl; rw [cells_int] at h'; exact h'
  have f2 : DataW.trod enc Try.prog W base spare held n 3 [c2] = some x2 := by have h' : DataW.trod enc Try.prog W base spare held n 3 (([c0, c1, c2, c3].drop 2).take (Try.prog.cellsOf 3)) = some x2 := hall 2 _ rfl; rw [cells_int] at h'; exact h'
  have f3 : DataW.trod enc Try.prog W base spare held n 3 [c3] = some x3 := by have h' : DataW.trod enc Try.prog W base spare held n 3 (([c0, c1, c2, c3].drop 3).take (Try.prog.cellsOf 3)) = some x3 := hall 3 _ rfl; rw [cells_int] at h'; exact h'
  obtain ⟨y0, rfl⟩ := open_num f0
  obtain ⟨y1, rfl⟩ := open_num f1
  obtain ⟨y2, rfl⟩ := open_num f2
  obtain ⟨y3, rfl⟩ := open_num f3
  exact ⟨y0, y1, y2, y3, rfl⟩
end

end Go.Proofs.Ytoinbdjjimfdgaa.MT
