/- A machine as an argument, with the room that its lists have. -/
import Derived.Test.YtcdjgmcepjaldaaOpen
namespace Go.Proofs.Ytcdjgmcepjaldaa.TB
open Go.ChangeShapes Go.WideShapes Go.ChangeAt Go.RowKit Go.Proofs.Ytcdjgmcepjaldaa.AR

section
variable {H : Type} {enc : TypeId × Value → H} {W : World} {base : Nat} {spare : Nat → Bool} {held : Bool}

theorem open_room {t e : TypeId} {n : Nat} {ao : Option Addr} {len cap : Nat} {x : DataW H × List MemPlace} (ht : Try.prog.underlying t = some (.slice e)) (h : DataW.trod enc Try.prog W base spare held n t [.slice ao len cap] = some x) : len ≤ cap := by
  rcases Go.Deep.open_slice ht h with ⟨hc, _⟩ | ⟨a, len', cap', m, n', D, Pl, hc, _, hl, _⟩
  · simp only [List.cons.injEq, Value.slice.injEq, and_true] at hc
    omega
  · simp only [List.cons.injEq, Value.slice.injEq, and_true] at hc
    omega

theorem open_platc {r : Reach} {b0 : Nat} {v : Value} {d : DataW H} {p : List MemPlace} (hv : Value.okWide Try.prog W r b0 26 v) (h : DataW.Trod enc Try.prog W base spare held 26 v d p) :
    ∃ aL lL cL rL aS lS cS rS aD lD cD rD idle crit sw swe sems hor, v = pv aL lL cL aS lS cS aD lD cD idle crit sw swe sems hor ∧ Mach W aL lL rL aS lS rS aD lD rD ∧ lL ≤ cL ∧ lS ≤ cS ∧ lD ≤ cD := by
  obtain ⟨aL, lL, cL, rL, aS, lS, cS, rS, aD, lD, cD, rD, y3, y4, y5, y6, y7, y8, rfl, m⟩ := open_plat hv h
  obtain ⟨fuel, hf⟩ := h
  obtain ⟨xs, n, _, _, _, hxl, hall⟩ := DataW.trod_struct Try.underlying26 hf
  obtain ⟨x0, x1, x2, x3, x4, x5, x6, x7, x8, rfl⟩ := list9 (l := xs) hxl
  have f0 : DataW.trod enc Try.prog W base spare held n 22 [.slice aL lL cL] = some x0 := by have h' : DataW.trod enc Try.prog W base spare held n 22 (([.slice aL lL cL, .slice aS lS cS, .slice aD lD cD, .int .i64 y3, .int .i64 y4, .int .i64 y5, .int .i64 y6, .int .i64 y7, .int .i64 y8].drop 0).take (Try.prog.cellsOf 22)) = some x0 := hall 0 _ rfl; rw [cells_ls] at h'; exact h'
  have f1 : DataW.trod enc Try.prog W base spare held n 23 [.slice aS lS cS] = some x1 := by have h' : DataW.trod enc Try.prog W base spare held n 23 (([.slice aL lL cL, .slice aS lS cS, .slice aD lD cD, .int .i64 y3, .int .i64 y4, .int .i64 y5, .int .i64 y6, .int .i64 y7, .int .i64 y8].drop 1).take (Try.prog.cellsOf 23)) = some x1 := hall 1 _ rfl; rw [cells_ss] at h'; exact h'
  have f2 : DataW.trod enc Try.prog W base spare held n 24 [.slice aD lD cD] = some x2 := by have h' : DataW.trod enc Try.prog W base spare held n 24 (([.slice aL lL cL, .slice aS lS cS, .slice aD lD cD, .int .i64 y3, .int .i64 y4, .int .i64 y5, .int .i64 y6, .int .i64 y7, .int .i64 y8].drop 2).take (Try.prog.cellsOf 24)) = some x2 := hall 2 _ rfl; rw [cells_ds] at h'; exact h'
  exact ⟨aL, lL, cL, rL, aS, lS, cS, rS, aD, lD, cD, rD, y3, y4, y5, y6, y7, y8, rfl, m, open_room Try.underlying22 f0, open_room Try.underlying23 f1, open_room Try.underlying24 f2⟩
end

end Go.Proofs.Ytcdjgmcepjaldaa.TB
