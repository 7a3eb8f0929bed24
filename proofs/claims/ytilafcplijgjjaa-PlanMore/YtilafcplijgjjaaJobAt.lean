/- Jobs: as values, in boxes, as arguments. -/
import Derived.Test.YtilafcplijgjjaaRows
import Derived.Test.YtilafcplijgjjaaArgs
import Derived.Test.YtilafcplijgjjaaAw
import Derived.WalkKit
import Derived.ProofKit
import Derived.OpenShut
namespace Go.Proofs.Ytilafcplijgjjaa.JB
open Go.ChangeShapes Go.WideShapes Go.ChangeAt Go.RowKit Go.Proofs.Ytilafcplijgjjaa.AR Go.Proofs.Ytilafcplijgjjaa.TB

/-- a job: its task, its release, its deadline, cycles that it may take and will take yet, whether it has started -/
structure Jb where
  t : Int
  r : Int
  d : Int
  l : Int
  x : Int
  s : Bool

def Jb.v (j : Jb) : Value := .agg #[.int .i64 j.t, .int .i64 j.r, .int .i64 j.d, .int .i64 j.l, .int .i64 j.x, .bool j.s]

/-- a block with a job -/
structure BJ (w : World) (g : Nat) (j : Jb) : Prop where
  blk : w.heap[g]? = some (.cells #[.int .i64 j.t, .int .i64 j.r, .int .i64 j.d, .int .i64 j.l, .int .i64 j.x, .bool j.s] 41 (0, 0))
theorem BJ.lt {w : World} {g : Nat} {j : Jb} (h : BJ w g j) : g < w.heap.size := (Array.getElem?_eq_some_iff.1 h.blk).1
theorem BJ.all {w : World} {g : Nat} {j : Jb} (h : BJ w g j) : w.cell? ⟨g, 0, none⟩ = some (.int .i64 j.t) ∧ w.cell? ⟨g, 1, none⟩ = some (.int .i64 j.r) ∧ w.cell? ⟨g, 2, none⟩ = some (.int .i64 j.d) ∧ w.cell? ⟨g, 3, none⟩ = some (.int .i64 j.l) ∧ w.cell? ⟨g, 4, none⟩ = some (.int .i64 j.x) ∧ w.cell? ⟨g, 5, none⟩ = some (.bool j.s) := by simp [World.cell?, h.blk]
theorem BJ.fr {w : World} {g : Nat} {j : Jb} (h : BJ w g j) (i : Nat) : w.frozen? ⟨g, i, none⟩ = false := by simp [World.frozen?, h.blk]
theorem BJ.kp {w w' : World} {g : Nat} {j : Jb} (h : BJ w g j) (k : Kp w w') : BJ w' g j := ⟨(k.block g h.lt).trans h.blk⟩
theorem bj_new (w : World) (j : Jb) : BJ (w.alloc (.cells #[.int .i64 j.t, .int .i64 j.r, .int .i64 j.d, .int .i64 j.l, .int .i64 j.x, .bool j.s] 41)) w.heap.size j := ⟨heap_alloc_at w _⟩

/-- all six cells anew -/
theorem BJ.setAll {w : World} {g : Nat} {i : Jb} (h : BJ w g i) (j : Jb) : BJ ((((((w.setCell ⟨g, 0, none⟩ (.int .i64 j.t)).setCell ⟨g, 1, none⟩ (.int .i64 j.r)).setCell ⟨g, 2, none⟩ (.int .i64 j.d)).setCell ⟨g, 3, none⟩ (.int .i64 j.l)).setCell ⟨g, 4, none⟩ (.int .i64 j.x)).setCell ⟨g, 5, none⟩ (.bool j.s)) g j := by
  have s0 := heap_setCell_same w g 0 _ _ (.int .i64 j.t) h.blk
  have s1 := heap_setCell_same _ g 1 _ _ (.int .i64 j.r) s0
  have s2 := heap_setCell_same _ g 2 _ _ (.int .i64 j.d) s1
  have s3 := heap_setCell_same _ g 3 _ _ (.int .i64 j.l) s2
  have s4 := heap_setCell_same _ g 4 _ _ (.int .i64 j.x) s3
  have s5 := heap_setCell_same _ g 5 _ _ (.bool j.s) s4
  exact ⟨s5.trans rfl⟩

theorem kp_setJ {w W : World} {g : Nat} (k : Kp w W) (hg : w.heap.size ≤ g) (j : Jb) : Kp w ((((((W.setCell ⟨g, 0, none⟩ (.int .i64 j.t)).setCell ⟨g, 1, none⟩ (.int .i64 j.r)).setCell ⟨g, 2, none⟩ (.int .i64 j.d)).setCell ⟨g, 3, none⟩ (.int .i64 j.l)).setCell ⟨g, 4, none⟩ (.int .i64 j.x)).setCell ⟨g, 5, none⟩ (.bool j.s)) :=
  (((((k.setCell (p := ⟨g, 0, none⟩) hg _).setCell (p := ⟨g, 1, none⟩) hg _).setCell (p := ⟨g, 2, none⟩) hg _).setCell (p := ⟨g, 3, none⟩) hg _).setCell (p := ⟨g, 4, none⟩) hg _).setCell (p := ⟨g, 5, none⟩) hg _

/-- the cells that one cycle turns -/
theorem BJ.setLeft {w : World} {g : Nat} {j : Jb} (h : BJ w g j) (y : Int) : BJ (w.setCell ⟨g, 3, none⟩ (.int .i64 y)) g { j with l := y } := ⟨(heap_setCell_same w g 3 _ _ (.int .i64 y) h.blk).trans rfl⟩
theorem BJ.setReal {w : World} {g : Nat} {j : Jb} (h : BJ w g j) (y : Int) : BJ (w.setCell ⟨g, 4, none⟩ (.int .i64 y)) g { j with x := y } := ⟨(heap_setCell_same w g 4 _ _ (.int .i64 y) h.blk).trans rfl⟩
theorem BJ.setStarted {w : World} {g : Nat} {j : Jb} (h : BJ w g j) (y : Bool) : BJ (w.setCell ⟨g, 5, none⟩ (.bool y)) g { j with s := y } := ⟨(heap_setCell_same w g 5 _ _ (.bool y) h.blk).trans rfl⟩
theorem BJ.other {w : World} {g : Nat} {j : Jb} (h : BJ w g j) {p : Addr} (hp : g ≠ p.block) (v : Value) : BJ (w.setCell p v) g j := ⟨(heap_setCell_other w p g v hp).trans h.blk⟩

/-! ### '==' of two jobs that are the same -/

theorem jint_eq (d : Nat) (x : Int) (w : World) : (Op.equalIn (d + 1) 3 (.int .i64 x) (.int .i64 x)).run Try.prog w = .ok true w := by
  rw [run_equalIn_int w d 3 .i64 .i64 x x Try.underlying3]
  simp

/-! ### as arguments -/

theorem cells_jint : Try.prog.cellsOf 3 = 1 := by kernel_rfl
theorem cells_jbool : Try.prog.cellsOf 4 = 1 := by kernel_rfl
theorem cells_jb : Try.prog.cellsOf 41 = 6 := by kernel_rfl

theorem list6 {α : Type} {l : List α} (h : l.length = 6) : ∃ a0 a1 a2 a3 a4 a5, l = [a0, a1, a2, a3, a4, a5] := by
  match l, h with
  | [a0, a1, a2, a3, a4, a5], _ => exact ⟨a0, a1, a2, a3, a4, a5, rfl⟩

theorem array6 {α : Type} {a : Array α} (h : a.size = 6) : ∃ a0 a1 a2 a3 a4 a5, a = #[a0, a1, a2, a3, a4, a5] := by
  obtain ⟨l⟩ := a
  obtain ⟨a0, a1, a2, a3, a4, a5, rfl⟩ := list6 (l := l) h
  exact ⟨a0, a1, a2, a3, a4, a5, rfl⟩

section
variable {H : Type} {enc : TypeId × Value → H} {W : World} {base : Nat} {spare : Nat → Bool} {held : Bool}

theorem open_jnum {n : Nat} {c : Value} {x : DataW H × List MemPlace} (h : DataW.trod enc Try.prog W base spare held n 3 [c] = some x) : ∃ y : Int, c = .int .i64 y := by
  obtain ⟨y, hy, _⟩ := DataW.trod_int Try.underlying3 h
  simp only [List.cons.injEq, and_true] at hy
  exact ⟨y, hy⟩

theorem open_jbool {n : Nat} {c : Value} {x : DataW H × List MemPlace} (h : DataW.trod enc Try.prog W base spare held n 4 [c] = some x) : ∃ y : Bool, c = .bool y := by
  obtain ⟨y, hy, _⟩ := DataW.trod_bool Try.underlying4 h
  simp only [List.cons.injEq, and_true] at hy
  exact ⟨y, hy⟩

theorem open_jb {r : Reach} {b0 : Nat} {v : Value} {d : DataW H} {p : List MemPlace} (hv : Value.okWide Try.prog W r b0 41 v) (h : DataW.Trod enc Try.prog W base spare held 41 v d p) :
    ∃ j : Jb, v = j.v := by
  obtain ⟨cs, rfl, hsz⟩ := okWide_struct Try.underlying41 hv
  obtain ⟨c0, c1, c2, c3, c4, c5, rfl⟩ := array6 (hsz.trans cells_jb)
  obtain ⟨fuel, hf⟩ := h
  obtain ⟨xs, n, _, _, _, hxl, hall⟩ := DataW.trod_struct Try.underlying41 hf
  obtain ⟨x0, x1, x2, x3, x4, x5, rfl⟩ := list6 (l := xs) hxl
  have f0 : DataW.trod enc Try.prog W base spare held n 3 [c0] = some x0 := by have h' : DataW.trod enc Try.prog W base spare held n 3 (([c0, c1, c2, c3, c4, c5].drop 0).take (Try.prog.cellsOf 3)) = some x0 := hall 0 _ rfl; rw [cells_jint] at h'; exact h'
  have f1 : DataW.trod enc Try.prog W base spare held n 3 [c1] = some x1 := by have h' : DataW.trod enc Try.prog W base spare held n 3 (([c0, c1, c2, c3, c4, c5].drop 1).take (Try.prog.cellsOf 3)) = some x1 := hall 1 _ rfl; rw [cells_jint] at h'; exact h'
  have f2 : DataW.trod enc Try.prog W base spare held n 3 [c2] = some x2 := by have h' : DataW.trod enc Try.prog W base spare held n 3 (([c0, c1, c2, c3, c4, c5].drop 2).take (Try.prog.cellsOf 3)) = some x2 := hall 2 _ rfl; rw [cells_jint] at h'; exact h'
  have f3 : DataW.trod enc Try.prog W base spare held n 3 [c3] = some x3 := by have h' : DataW.trod enc Try.prog W base spare held n 3 (([c0, c1, c2, c3, c4, c5].drop 3).take (Try.prog.cellsOf 3)) = some x3 := hall 3 _ rfl; rw [cells_jint] at h'; exact h'
  have f4 : DataW.trod enc Try.prog W base spare held n 3 [c4] = some x4 := by have h' : DataW.trod enc Try.prog W base spare held n 3 (([c0, c1, c2, c3, c4, c5].drop 4).take (Try.prog.cellsOf 3)) = some x4 := hall 4 _ rfl; rw [cells_jint] at h'; exact h'
  have f5 : DataW.trod enc Try.prog W base spare held n 4 [c5] = some x5 := by have h' : DataW.trod enc Try.prog W base spare held n 4 (([c0, c1, c2, c3, c4, c5].drop 5).take (Try.prog.cellsOf 4)) = some x5 := hall 5 _ rfl; rw [cells_jbool] at h'; exact h'
  obtain ⟨y0, rfl⟩ := open_jnum f0
  obtain ⟨y1, rfl⟩ := open_jnum f1
  obtain ⟨y2, rfl⟩ := open_jnum f2
  obtain ⟨y3, rfl⟩ := open_jnum f3
  obtain ⟨y4, rfl⟩ := open_jnum f4
  obtain ⟨y5, rfl⟩ := open_jbool f5
  exact ⟨⟨y0, y1, y2, y3, y4, y5⟩, rfl⟩

end

end Go.Proofs.Ytilafcplijgjjaa.JB
