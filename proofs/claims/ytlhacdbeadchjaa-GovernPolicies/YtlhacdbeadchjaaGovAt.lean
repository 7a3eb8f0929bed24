/- A machine, and what a level is chosen by: in memory, and the question as an argument. -/
import Derived.Test.YtlhacdbeadchjaaTbl
import Derived.Test.YtlhacdbeadchjaaFxWalks
import Derived.WalkKit
import Derived.ProofKit
import Derived.OpenShut
namespace Go.Proofs.Ytlhacdbeadchjaa.GV
open Go.ChangeShapes Go.WideShapes Go.ChangeAt Go.RowKit Go.Proofs.Ytlhacdbeadchjaa.AR Go.Proofs.Ytlhacdbeadchjaa.TB

theorem lt_blk {w : World} {g : Nat} {o : Obj} (h : w.heap[g]? = some o) : g < w.heap.size := (Array.getElem?_eq_some_iff.1 h).1
theorem kp_block {w w' : World} {g : Nat} {o : Obj} (h : w.heap[g]? = some o) (k : Kp w w') : w'.heap[g]? = some o := (k.block g (lt_blk h)).trans h

/-- a machine, with its rows -/
structure Mc where
  aL : Option Addr
  lL : Nat
  cL : Nat
  rL : List (List Int)
  aS : Option Addr
  lS : Nat
  cS : Nat
  rS : List (List Int)
  aD : Option Addr
  lD : Nat
  cD : Nat
  rD : List (List Int)
  idle : Int
  crit : Int
  sw : Int
  swe : Int
  sems : Int
  hor : Int

def Mc.v (m : Mc) : Value := .agg #[.slice m.aL m.lL m.cL, .slice m.aS m.lS m.cS, .slice m.aD m.lD m.cD, .int .i64 m.idle, .int .i64 m.crit, .int .i64 m.sw, .int .i64 m.swe, .int .i64 m.sems, .int .i64 m.hor]
def Mc.At (w : World) (m : Mc) : Prop := Mach w m.aL m.lL m.rL m.aS m.lS m.rS m.aD m.lD m.rD
def Mc.may (m : Mc) : Bool := mayB m.lL m.rL m.lS m.rS m.lD m.rD m.idle m.crit m.sw m.swe m.sems m.hor
theorem Mc.At.kept {w w' : World} {m : Mc} (h : m.At w) (k : Kp w w') : m.At w' := Mach.kept h k
theorem Mc.At.lev {w : World} {m : Mc} (h : m.At w) : RecAt w 2 m.aL m.lL m.rL := h.1

/-- the P of a level lies there -/
theorem lev_at {w wr : World} {m : Mc} (h : m.At w) {k : Nat} (hk : k < m.lL) (hb : Kp w wr) : ∃ b off, m.aL = some ⟨b, off, none⟩ ∧ b < wr.heap.size ∧ wr.cell? ⟨b, off + k * 2, none⟩ = some (.int .i64 (fd m.rL k 0)) := by
  obtain ⟨b, off, e, hlt, hc⟩ := fd_at h.lev hk hb
  exact ⟨b, off, e, hlt, by have := hc 0 (by omega); simpa using this⟩

/-- two levels' P lie there -/
theorem lev_two {w : World} {m : Mc} (h : m.At w) {k : Nat} (hk : k < m.lL) : ∃ b off, m.aL = some ⟨b, off, none⟩ ∧ b < w.heap.size ∧ w.cell? ⟨b, off + k * 2, none⟩ = some (.int .i64 (fd m.rL k 0)) ∧ w.cell? ⟨b, off, none⟩ = some (.int .i64 (fd m.rL 0 0)) := by
  obtain ⟨b, off, e, hlt, hc⟩ := lev_at h hk (Kp.refl _)
  obtain ⟨b', off', e', _, hc'⟩ := lev_at h (k := 0) (by omega) (Kp.refl _)
  rw [e] at e'
  simp only [Option.some.injEq, Addr.mk.injEq, and_true] at e'
  obtain ⟨rfl, rfl⟩ := e'
  exact ⟨b, off, e, hlt, hc, by simpa using hc'⟩

/-- a machine whose numbers are small -/
structure Bd (m : Mc) : Prop where
  l4 : m.lL ≤ 4
  lev : ∀ i, i < m.lL → 1 ≤ fd m.rL i 0 ∧ fd m.rL i 0 ≤ 256
  up : ∀ i, i + 1 < m.lL → fd m.rL i 0 ≤ fd m.rL (i + 1) 0
  sw : 0 ≤ m.sw ∧ m.sw ≤ 256
  cr : 0 ≤ m.crit ∧ m.crit < m.lL

theorem bd_of {m : Mc} (h : m.may = true) : Bd m := by
  have q := mayB_t.1 h
  have n := q.1
  have l := q.2.1
  refine ⟨l.1.2, lev_pos l.2, fun i hi => ?_, n.2.2.1, ⟨n.2.1.1, by have := n.2.1.2; omega⟩⟩
  have := (l.2 (i + 1) hi).1
  simp only [ahd] at this
  omega

theorem Bd.rise {m : Mc} (h : Bd m) : ∀ {j : Nat}, j < m.lL → fd m.rL 0 0 ≤ fd m.rL j 0
  | 0, _ => Int.le_refl _
  | j + 1, hj => Int.le_trans (h.rise (j := j) (by omega)) (h.up j hj)

theorem table_at (m : Mc) (w : World) (h : m.At w) : Calls Try.prog 14 #[m.v] w fun e w' => e = .returned (.bool m.may) ∧ Kp w w' :=
  reftable_any m.aL m.lL m.cL m.rL m.aS m.lS m.cS m.rS m.aD m.lD m.cD m.rD m.idle m.crit m.sw m.swe m.sems m.hor w h

/-- a block with a machine in it -/
structure B9 (w : World) (g : Nat) (m : Mc) : Prop where
  blk : w.heap[g]? = some (.cells #[.slice m.aL m.lL m.cL, .slice m.aS m.lS m.cS, .slice m.aD m.lD m.cD, .int .i64 m.idle, .int .i64 m.crit, .int .i64 m.sw, .int .i64 m.swe, .int .i64 m.sems, .int .i64 m.hor] 26 (0, 0))
theorem B9.lt {w : World} {g : Nat} {m : Mc} (h : B9 w g m) : g < w.heap.size := lt_blk h.blk
theorem B9.all {w : World} {g : Nat} {m : Mc} (h : B9 w g m) : w.cell? ⟨g, 0, none⟩ = some (.slice m.aL m.lL m.cL) ∧ w.cell? ⟨g, 1, none⟩ = some (.slice m.aS m.lS m.cS) ∧ w.cell? ⟨g, 2, none⟩ = some (.slice m.aD m.lD m.cD) ∧ w.cell? ⟨g, 3, none⟩ = some (.int .i64 m.idle) ∧ w.cell? ⟨g, 4, none⟩ = some (.int .i64 m.crit) ∧ w.cell? ⟨g, 5, none⟩ = some (.int .i64 m.sw) ∧ w.cell? ⟨g, 6, none⟩ = some (.int .i64 m.swe) ∧ w.cell? ⟨g, 7, none⟩ = some (.int .i64 m.sems) ∧ w.cell? ⟨g, 8, none⟩ = some (.int .i64 m.hor) := by simp [World.cell?, h.blk]
theorem B9.kp {w w' : World} {g : Nat} {m : Mc} (h : B9 w g m) (k : Kp w w') : B9 w' g m := ⟨kp_block h.blk k⟩
theorem b9_new (w : World) (m : Mc) : B9 (w.alloc (.cells #[.slice m.aL m.lL m.cL, .slice m.aS m.lS m.cS, .slice m.aD m.lD m.cD, .int .i64 m.idle, .int .i64 m.crit, .int .i64 m.sw, .int .i64 m.swe, .int .i64 m.sems, .int .i64 m.hor] 26)) w.heap.size m := ⟨heap_alloc_at w _⟩

/-- what a level is chosen by -/
structure Ak where
  pol : Int
  st : Int
  lf : Int
  sl : Int
  lv : Int
def Ak.v (a : Ak) : Value := .agg #[.int .i64 a.pol, .int .i64 a.st, .int .i64 a.lf, .int .i64 a.sl, .int .i64 a.lv]

/-- a block with it -/
structure A5 (w : World) (g : Nat) (a : Ak) : Prop where
  blk : w.heap[g]? = some (.cells #[.int .i64 a.pol, .int .i64 a.st, .int .i64 a.lf, .int .i64 a.sl, .int .i64 a.lv] 28 (0, 0))
theorem A5.lt {w : World} {g : Nat} {a : Ak} (h : A5 w g a) : g < w.heap.size := lt_blk h.blk
theorem A5.all {w : World} {g : Nat} {a : Ak} (h : A5 w g a) : w.cell? ⟨g, 0, none⟩ = some (.int .i64 a.pol) ∧ w.cell? ⟨g, 1, none⟩ = some (.int .i64 a.st) ∧ w.cell? ⟨g, 2, none⟩ = some (.int .i64 a.lf) ∧ w.cell? ⟨g, 3, none⟩ = some (.int .i64 a.sl) ∧ w.cell? ⟨g, 4, none⟩ = some (.int .i64 a.lv) := by simp [World.cell?, h.blk]
theorem A5.kp {w w' : World} {g : Nat} {a : Ak} (h : A5 w g a) (k : Kp w w') : A5 w' g a := ⟨kp_block h.blk k⟩
theorem a5_new (w : World) (a : Ak) : A5 (w.alloc (.cells #[.int .i64 a.pol, .int .i64 a.st, .int .i64 a.lf, .int .i64 a.sl, .int .i64 a.lv] 28)) w.heap.size a := ⟨heap_alloc_at w _⟩

/-- a machine's box -/
theorem one_box (w : World) (m : Mc) : ∃ W0, Hid (W0 = w.alloc (.cells #[.slice m.aL m.lL m.cL, .slice m.aS m.lS m.cS, .slice m.aD m.lD m.cD, .int .i64 m.idle, .int .i64 m.crit, .int .i64 m.sw, .int .i64 m.swe, .int .i64 m.sems, .int .i64 m.hor] 26)) ∧ Kp w W0 ∧ B9 W0 w.heap.size m :=
  ⟨_, rfl, (Kp.refl _).alloc _, b9_new w m⟩
/-- a machine's box and a question's, one behind the other -/
theorem ma_box (w : World) (m : Mc) (a : Ak) : ∃ W0, Hid (W0 = (w.alloc (.cells #[.slice m.aL m.lL m.cL, .slice m.aS m.lS m.cS, .slice m.aD m.lD m.cD, .int .i64 m.idle, .int .i64 m.crit, .int .i64 m.sw, .int .i64 m.swe, .int .i64 m.sems, .int .i64 m.hor] 26)).alloc (.cells #[.int .i64 a.pol, .int .i64 a.st, .int .i64 a.lf, .int .i64 a.sl, .int .i64 a.lv] 28)) ∧
    Kp w W0 ∧ B9 W0 w.heap.size m ∧ A5 W0 (w.heap.size + 1) a := by
  refine ⟨_, rfl, ((Kp.refl _).alloc _).alloc _, (b9_new w m).kp ((Kp.refl _).alloc _), ?_⟩
  have := a5_new (w.alloc (.cells #[.slice m.aL m.lL m.cL, .slice m.aS m.lS m.cS, .slice m.aD m.lD m.cD, .int .i64 m.idle, .int .i64 m.crit, .int .i64 m.sw, .int .i64 m.swe, .int .i64 m.sems, .int .i64 m.hor] 26)) a
  rw [World.size_alloc] at this
  exact this

/-! ### as an argument -/

theorem cells_gint : Try.prog.cellsOf 3 = 1 := by kernel_rfl
theorem cells_ask : Try.prog.cellsOf 28 = 5 := by kernel_rfl

theorem list5 {α : Type} {l : List α} (h : l.length = 5) : ∃ a0 a1 a2 a3 a4, l = [a0, a1, a2, a3, a4] := by
  match l, h with
  | [a0, a1, a2, a3, a4], _ => exact ⟨a0, a1, a2, a3, a4, rfl⟩
theorem array5 {α : Type} {a : Array α} (h : a.size = 5) : ∃ a0 a1 a2 a3 a4, a = #[a0, a1, a2, a3, a4] := by
  obtain ⟨l⟩ := a
  obtain ⟨a0, a1, a2, a3, a4, rfl⟩ := list5 (l := l) h
  exact ⟨a0, a1, a2, a3, a4, rfl⟩

section
variable {H : Type} {enc : TypeId × Value → H} {W : World} {base : Nat} {spare : Nat → Bool} {held : Bool}

theorem open_gnum {n : Nat} {c : Value} {x : DataW H × List MemPlace} (h : DataW.trod enc Try.prog W base spare held n 3 [c] = some x) : ∃ y : Int, c = .int .i64 y ∧ I64 y := by
  obtain ⟨y, hy, _, hw⟩ := DataW.trod_int Try.underlying3 h
  simp only [List.cons.injEq, and_true] at hy
  exact ⟨y, hy, i64_of_wf hw⟩

theorem open_ask {r : Reach} {b0 : Nat} {v : Value} {d : DataW H} {p : List MemPlace} (hv : Value.okWide Try.prog W r b0 28 v) (h : DataW.Trod enc Try.prog W base spare held 28 v d p) :
    ∃ a : Ak, v = a.v ∧ I64 a.sl := by
  obtain ⟨cs, rfl, hsz⟩ := okWide_struct Try.underlying28 hv
  obtain ⟨c0, c1, c2, c3, c4, rfl⟩ := array5 (hsz.trans cells_ask)
  obtain ⟨fuel, hf⟩ := h
  obtain ⟨xs, n, _, _, _, hxl, hall⟩ := DataW.trod_struct Try.underlying28 hf
  obtain ⟨x0, x1, x2, x3, x4, rfl⟩ := list5 (l := xs) hxl
  have f0 : DataW.trod enc Try.prog W base spare held n 3 [c0] = some x0 := by have h' : DataW.trod enc Try.prog W base spare held n 3 (([c0, c1, c2, c3, c4].drop 0).take (Try.prog.cellsOf 3)) = some x0 := hall 0 _ rfl; rw [cells_gint] at h'; exact h'
  have f1 : DataW.trod enc Try.prog W base spare held n 3 [c1] = some x1 := by have h' : DataW.trod enc Try.prog W base spare held n 3 (([c0, c1, c2, c3, c4].drop 1).take (Try.prog.cellsOf 3)) = some x1 := hall 1 _ rfl; rw [cells_gint] at h'; exact h'
  have f2 : DataW.trod enc Try.prog W base spare held n 3 [c2] = some x2 := by have h' : DataW.trod enc Try.prog W base spare held n 3 (([c0, c1, c2, c3, c4].drop 2).take (Try.prog.cellsOf 3)) = some x2 := hall 2 _ rfl; rw [cells_gint] at h'; exact h'
  have f3 : DataW.trod enc Try.prog W base spare held n 3 [c3] = some x3 := by have h' : DataW.trod enc Try.prog W base spare held n 3 (([c0, c1, c2, c3, c4].drop 3).take (Try.prog.cellsOf 3)) = some x3 := hall 3 _ rfl; rw [cells_gint] at h'; exact h'
  have f4 : DataW.trod enc Try.prog W base spare held n 3 [c4] = some x4 := by have h' : DataW.trod enc Try.prog W base spare held n 3 (([c0, c1, c2, c3, c4].drop 4).take (Try.prog.cellsOf 3)) = some x4 := hall 4 _ rfl; rw [cells_gint] at h'; exact h'
  obtain ⟨y0, rfl, _⟩ := open_gnum f0
  obtain ⟨y1, rfl, _⟩ := open_gnum f1
  obtain ⟨y2, rfl, _⟩ := open_gnum f2
  obtain ⟨y3, rfl, i3⟩ := open_gnum f3
  obtain ⟨y4, rfl, _⟩ := open_gnum f4
  exact ⟨⟨y0, y1, y2, y3, y4⟩, rfl, i3⟩

end

end Go.Proofs.Ytlhacdbeadchjaa.GV
