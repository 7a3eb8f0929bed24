/- A machine as an argument: what lies where. -/
import Derived.Test.YtbhgjaaaffjjeaaChk
namespace Go.Proofs.Ytbhgjaaaffjjeaa.TB
open Go.ChangeShapes Go.WideShapes Go.ChangeAt Go.RowKit Go.Proofs.Ytbhgjaaaffjjeaa.AR

theorem cells_int : Try.prog.cellsOf 3 = 1 := by kernel_rfl
theorem cells_ls : Try.prog.cellsOf 22 = 1 := by kernel_rfl
theorem cells_ss : Try.prog.cellsOf 23 = 1 := by kernel_rfl
theorem cells_ds : Try.prog.cellsOf 24 = 1 := by kernel_rfl
theorem cells_lev : Try.prog.cellsOf 40 = 2 := by kernel_rfl
theorem cells_slp : Try.prog.cellsOf 45 = 6 := by kernel_rfl
theorem cells_dev : Try.prog.cellsOf 48 = 7 := by kernel_rfl
theorem cells_plat : Try.prog.cellsOf 26 = 9 := by kernel_rfl

theorem list9 {α : Type} {l : List α} (h : l.length = 9) : ∃ a0 a1 a2 a3 a4 a5 a6 a7 a8, l = [a0, a1, a2, a3, a4, a5, a6, a7, a8] := by
  match l, h with
  | [a0, a1, a2, a3, a4, a5, a6, a7, a8], _ => exact ⟨a0, a1, a2, a3, a4, a5, a6, a7, a8, rfl⟩

theorem array9 {α : Type} {a : Array α} (h : a.size = 9) : ∃ a0 a1 a2 a3 a4 a5 a6 a7 a8, a = #[a0, a1, a2, a3, a4, a5, a6, a7, a8] := by
  obtain ⟨l⟩ := a
  obtain ⟨a0, a1, a2, a3, a4, a5, a6, a7, a8, rfl⟩ := list9 (l := l) h
  exact ⟨a0, a1, a2, a3, a4, a5, a6, a7, a8, rfl⟩

section
variable {H : Type} {enc : TypeId × Value → H} {W : World} {base : Nat} {spare : Nat → Bool} {held : Bool}

theorem open_levs {n : Nat} {c : Value} {x : DataW H × List MemPlace} (h : DataW.trod enc Try.prog W base spare held n 22 [c] = some x) : ∃ ao len cap rows, c = .slice ao len cap ∧ RecAt W 2 ao len rows ∧ len ≤ 9223372036854775807 := by
  obtain ⟨ao, len, cap, rows, hcs, hra, h1, h2, _⟩ := open_recs Try.underlying22 Try.underlying40 (by intro j f hj; match j, hj with | 0, hj => simp at hj; subst hj; exact ⟨rfl, cells_int, Try.underlying3⟩ | 1, hj => simp at hj; subst hj; exact ⟨rfl, cells_int, Try.underlying3⟩ | j + 2, hj => simp at hj) cells_lev (by decide) h
  simp only [List.cons.injEq, and_true] at hcs
  exact ⟨ao, len, cap, rows, hcs, hra, by unfold maxLen at h2; omega⟩

theorem open_slps {n : Nat} {c : Value} {x : DataW H × List MemPlace} (h : DataW.trod enc Try.prog W base spare held n 23 [c] = some x) : ∃ ao len cap rows, c = .slice ao len cap ∧ RecAt W 6 ao len rows ∧ len ≤ 9223372036854775807 := by
  obtain ⟨ao, len, cap, rows, hcs, hra, h1, h2, _⟩ := open_recs Try.underlying23 Try.underlying45 (by intro j f hj; match j, hj with | 0, hj => simp at hj; subst hj; exact ⟨rfl, cells_int, Try.underlying3⟩ | 1, hj => simp at hj; subst hj; exact ⟨rfl, cells_int, Try.underlying3⟩ | 2, hj => simp at hj; subst hj; exact ⟨rfl, cells_int, Try.underlying3⟩ | 3, hj => simp at hj; subst hj; exact ⟨rfl, cells_int, Try.underlying3⟩ | 4, hj => simp at hj; subst hj; exact ⟨rfl, cells_int, Try.underlying3⟩ | 5, hj => simp at hj; subst hj; exact ⟨rfl, cells_int, Try.underlying3⟩ | j + 6, hj => simp at hj) cells_slp (by decide) h
  simp only [List.cons.injEq, and_true] at hcs
  exact ⟨ao, len, cap, rows, hcs, hra, by unfold maxLen at h2; omega⟩

theorem open_devs {n : Nat} {c : Value} {x : DataW H × List MemPlace} (h : DataW.trod enc Try.prog W base spare held n 24 [c] = some x) : ∃ ao len cap rows, c = .slice ao len cap ∧ RecAt W 7 ao len rows ∧ len ≤ 9223372036854775807 := by
  obtain ⟨ao, len, cap, rows, hcs, hra, h1, h2, _⟩ := open_recs Try.underlying24 Try.underlying48 (by intro j f hj; match j, hj with | 0, hj => simp at hj; subst hj; exact ⟨rfl, cells_int, Try.underlying3⟩ | 1, hj => simp at hj; subst hj; exact ⟨rfl, cells_int, Try.underlying3⟩ | 2, hj => simp at hj; subst hj; exact ⟨rfl, cells_int, Try.underlying3⟩ | 3, hj => simp at hj; subst hj; exact ⟨rfl, cells_int, Try.underlying3⟩ | 4, hj => simp at hj; subst hj; exact ⟨rfl, cells_int, Try.underlying3⟩ | 5, hj => simp at hj; subst hj; exact ⟨rfl, cells_int, Try.underlying3⟩ | 6, hj => simp at hj; subst hj; exact ⟨rfl, cells_int, Try.underlying3⟩ | j + 7, hj => simp at hj) cells_dev (by decide) h
  simp only [List.cons.injEq, and_true] at hcs
  exact ⟨ao, len, cap, rows, hcs, hra, by unfold maxLen at h2; omega⟩

theorem open_num {n : Nat} {c : Value} {x : DataW H × List MemPlace} (h : DataW.trod enc Try.prog W base spare held n 3 [c] = some x) : ∃ y : Int, c = .int .i64 y := by
  obtain ⟨y, hy, _⟩ := DataW.trod_int Try.underlying3 h
  simp only [List.cons.injEq, and_true] at hy
  exact ⟨y, hy⟩

set_option maxRecDepth 100000 in
theorem open_plat {r : Reach} {b0 : Nat} {v : Value} {d : DataW H} {p : List MemPlace} (hv : Value.okWide Try.prog W r b0 26 v) (h : DataW.Trod enc Try.prog W base spare held 26 v d p) :
    ∃ aL lL cL rL aS lS cS rS aD lD cD rD idle crit sw swe sems hor, v = pv aL lL cL aS lS cS aD lD cD idle crit sw swe sems hor ∧ Mach W aL lL rL aS lS rS aD lD rD := by
  obtain ⟨cs, rfl, hsz⟩ := okWide_struct Try.underlying26 hv
  obtain ⟨c0, c1, c2, c3, c4, c5, c6, c7, c8, rfl⟩ := array9 (hsz.trans cells_plat)
  obtain ⟨fuel, hf⟩ := h
  obtain ⟨xs, n, _, _, _, hxl, hall⟩ := DataW.trod_struct Try.underlying26 hf
  obtain ⟨x0, x1, x2, x3, x4, x5, x6, x7, x8, rfl⟩ := list9 (l := xs) hxl
  have f0 : DataW.trod enc Try.prog W base spare held n 22 [c0] = some x0 := by have h' : DataW.trod enc Try.prog W base spare held n 22 (([c0, c1, c2, c3, c4, c5, c6, c7, c8].drop 0).take (Try.prog.cellsOf 22)) = some x0 := hall 0 _ rfl; rw [cells_ls] at h'; exact h'
  have f1 : DataW.trod enc Try.prog W base spare held n 23 [c1] = some x1 := by have h' : DataW.trod enc Try.prog W base spare held n 23 (([c0, c1, c2, c3, c4, c5, c6, c7, c8].drop 1).take (Try.prog.cellsOf 23)) = some x1 := hall 1 _ rfl; rw [cells_ss] at h'; exact h'
  have f2 : DataW.trod enc Try.prog W base spare held n 24 [c2] = some x2 := by have h' : DataW.trod enc Try.prog W base spare held n 24 (([c0, c1, c2, c3, c4, c5, c6, c7, c8].drop 2).take (Try.prog.cellsOf 24)) = some x2 := hall 2 _ rfl; rw [cells_ds] at h'; exact h'
  have f3 : DataW.trod enc Try.prog W base spare held n 3 [c3] = some x3 := by have h' : DataW.trod enc Try.prog W base spare held n 3 (([c0, c1, c2, c3, c4, c5, c6, c7, c8].drop 3).take (Try.prog.cellsOf 3)) = some x3 := hall 3 _ rfl; rw [cells_int] at h'; exact h'
  have f4 : DataW.trod enc Try.prog W base spare held n 3 [c4] = some x4 := by have h' : DataW.trod enc Try.prog W base spare held n 3 (([c0, c1, c2, c3, c4, c5, c6, c7, c8].drop 4).take (Try.prog.cellsOf 3)) = some x4 := hall 4 _ rfl; rw [cells_int] at h'; exact h'
  have f5 : DataW.trod enc Try.prog W base spare held n 3 [c5] = some x5 := by have h' : DataW.trod enc Try.prog W base spare held n 3 (([c0, c1, c2, c3, c4, c5, c6, c7, c8].drop 5).take (Try.prog.cellsOf 3)) = some x5 := hall 5 _ rfl; rw [cells_int] at h'; exact h'
  have f6 : DataW.trod enc Try.prog W base spare held n 3 [c6] = some x6 := by have h' : DataW.trod enc Try.prog W base spare held n 3 (([c0, c1, c2, c3, c4, c5, c6, c7, c8].drop 6).take (Try.prog.cellsOf 3)) = some x6 := hall 6 _ rfl; rw [cells_int] at h'; exact h'
  have f7 : DataW.trod enc Try.prog W base spare held n 3 [c7] = some x7 := by have h' : DataW.trod enc Try.prog W base spare held n 3 (([c0, c1, c2, c3, c4, c5, c6, c7, c8].drop 7).take (Try.prog.cellsOf 3)) = some x7 := hall 7 _ rfl; rw [cells_int] at h'; exact h'
  have f8 : DataW.trod enc Try.prog W base spare held n 3 [c8] = some x8 := by have h' : DataW.trod enc Try.prog W base spare held n 3 (([c0, c1, c2, c3, c4, c5, c6, c7, c8].drop 8).take (Try.prog.cellsOf 3)) = some x8 := hall 8 _ rfl; rw [cells_int] at h'; exact h'
  obtain ⟨aL, lL, cL, rL, rfl, m1, n1⟩ := open_levs f0
  obtain ⟨aS, lS, cS, rS, rfl, m2, n2⟩ := open_slps f1
  obtain ⟨aD, lD, cD, rD, rfl, m3, n3⟩ := open_devs f2
  obtain ⟨y3, rfl⟩ := open_num f3
  obtain ⟨y4, rfl⟩ := open_num f4
  obtain ⟨y5, rfl⟩ := open_num f5
  obtain ⟨y6, rfl⟩ := open_num f6
  obtain ⟨y7, rfl⟩ := open_num f7
  obtain ⟨y8, rfl⟩ := open_num f8
  exact ⟨aL, lL, cL, rL, aS, lS, cS, rS, aD, lD, cD, rD, y3, y4, y5, y6, y7, y8, rfl, m1, m2, m3, n1, n2, n3⟩
end

end Go.Proofs.Ytbhgjaaaffjjeaa.TB
