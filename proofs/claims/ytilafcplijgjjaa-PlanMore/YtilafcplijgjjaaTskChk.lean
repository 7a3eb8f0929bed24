/- Which tasks may be: the program's Check, and the document's own, walked. -/
import Derived.Test.YtilafcplijgjjaaTskFnd
import Derived.Test.YtilafcplijgjjaaTskRow
import Derived.Test.YtilafcplijgjjaaChk
namespace Go.Proofs.Ytilafcplijgjjaa.TK
open Go.ChangeShapes Go.WideShapes Go.ChangeAt Go.RowKit Go.Proofs.Ytilafcplijgjjaa.AR Go.Proofs.Ytilafcplijgjjaa.TB

/-- a machine, with its rows -/
structure Mc where
  aL : Option Addr
  lL : Nat
  cL : Nat
  rL : List (List Int)
  aS : Option Addr
  lS : Nat
  cS : Nat
  rS : List (List Int)
  aD : Option Addr
  lD : Nat
  cD : Nat
  rD : List (List Int)
  idle : Int
  crit : Int
  sw : Int
  swe : Int
  sems : Int
  hor : Int

def Mc.v (m : Mc) : Value := .agg #[.slice m.aL m.lL m.cL, .slice m.aS m.lS m.cS, .slice m.aD m.lD m.cD, .int .i64 m.idle, .int .i64 m.crit, .int .i64 m.sw, .int .i64 m.swe, .int .i64 m.sems, .int .i64 m.hor]
def Mc.At (w : World) (m : Mc) : Prop := Mach w m.aL m.lL m.rL m.aS m.lS m.rS m.aD m.lD m.rD
def Mc.may (m : Mc) : Bool := mayB m.lL m.rL m.lS m.rS m.lD m.rD m.idle m.crit m.sw m.swe m.sems m.hor
theorem Mc.At.kept {w w' : World} {m : Mc} (h : m.At w) (k : Kp w w') : m.At w' := Mach.kept h k

/-- a block with a machine in it -/
structure B9 (w : World) (g : Nat) (m : Mc) : Prop where
  blk : w.heap[g]? = some (.cells #[.slice m.aL m.lL m.cL, .slice m.aS m.lS m.cS, .slice m.aD m.lD m.cD, .int .i64 m.idle, .int .i64 m.crit, .int .i64 m.sw, .int .i64 m.swe, .int .i64 m.sems, .int .i64 m.hor] 26 (0, 0))
theorem B9.lt {w : World} {g : Nat} {m : Mc} (h : B9 w g m) : g < w.heap.size := lt_blk h.blk
theorem B9.all {w : World} {g : Nat} {m : Mc} (h : B9 w g m) : w.cell? ⟨g, 0, none⟩ = some (.slice m.aL m.lL m.cL) ∧ w.cell? ⟨g, 1, none⟩ = some (.slice m.aS m.lS m.cS) ∧ w.cell? ⟨g, 2, none⟩ = some (.slice m.aD m.lD m.cD) ∧ w.cell? ⟨g, 3, none⟩ = some (.int .i64 m.idle) ∧ w.cell? ⟨g, 4, none⟩ = some (.int .i64 m.crit) ∧
    w.cell? ⟨g, 5, none⟩ = some (.int .i64 m.sw) ∧ w.cell? ⟨g, 6, none⟩ = some (.int .i64 m.swe) ∧ w.cell? ⟨g, 7, none⟩ = some (.int .i64 m.sems) ∧ w.cell? ⟨g, 8, none⟩ = some (.int .i64 m.hor) := by simp [World.cell?, h.blk]
theorem B9.kp {w w' : World} {g : Nat} {m : Mc} (h : B9 w g m) (k : Kp w w') : B9 w' g m := ⟨kp_block h.blk k⟩
theorem b9_new (w : World) (m : Mc) : B9 (w.alloc (.cells #[.slice m.aL m.lL m.cL, .slice m.aS m.lS m.cS, .slice m.aD m.lD m.cD, .int .i64 m.idle, .int .i64 m.crit, .int .i64 m.sw, .int .i64 m.swe, .int .i64 m.sems, .int .i64 m.hor] 26)) w.heap.size m := ⟨heap_alloc_at w _⟩
abbrev TB4 (w : World) (g : Nat) (t : Tk) : Prop := B4 w g (.int .i64 t.p) (.int .i64 t.c) (.slice t.sa t.sl t.sc) (.slice t.da t.dl t.dc)

/-- a machine's box and a task's, one behind the other -/
theorem two_box (w : World) (m : Mc) (t : Tk) : ∃ W0, Hid (W0 = (w.alloc (.cells #[.slice m.aL m.lL m.cL, .slice m.aS m.lS m.cS, .slice m.aD m.lD m.cD, .int .i64 m.idle, .int .i64 m.crit, .int .i64 m.sw, .int .i64 m.swe, .int .i64 m.sems, .int .i64 m.hor] 26)).alloc (.cells #[.int .i64 t.p, .int .i64 t.c, .slice t.sa t.sl t.sc, .slice t.da t.dl t.dc] 39)) ∧
    Kp w W0 ∧ B9 W0 w.heap.size m ∧ TB4 W0 (w.heap.size + 1) t := by
  refine ⟨_, rfl, ((Kp.refl _).alloc _).alloc _, (b9_new w m).kp ((Kp.refl _).alloc _), ?_⟩
  have := b4_new (w := w.alloc (.cells #[.slice m.aL m.lL m.cL, .slice m.aS m.lS m.cS, .slice m.aD m.lD m.cD, .int .i64 m.idle, .int .i64 m.crit, .int .i64 m.sw, .int .i64 m.swe, .int .i64 m.sems, .int .i64 m.hor] 26)) (a := .int .i64 t.p) (b := .int .i64 t.c) (c := .slice t.sa t.sl t.sc) (d := .slice t.da t.dl t.dc) (Kp.refl _)
  rw [World.size_alloc] at this
  exact this

/-! ### plain -/

def tmB (m : Mc) (t : Tk) : Bool := inB t.p 1 m.hor && inB t.c 1 4096
def scB (m : Mc) (t : Tk) : Bool := decide ((t.sl : Int) ≤ m.sems) && !anyB (fun x => !inB x 0 t.c) t.sz t.sl
/-- the device ahead, or -1 -/
def ahdD (zs : List Int) : Nat → Int
  | 0 => -1
  | k + 1 => zs.getD k 0
def Dv (n : Nat) (zs : List Int) (k : Nat) : Prop := ∀ i, i < k → ahdD zs i + 1 ≤ zs.getD i 0 ∧ zs.getD i 0 ≤ (n : Int) - 1
def decDv (n : Nat) (zs : List Int) (k : Nat) : Decidable (Dv n zs k) := by unfold Dv; exact inferInstance
def dvB (m : Mc) (t : Tk) : Bool := @decide (Dv m.lD t.dz t.dl) (decDv m.lD t.dz t.dl)
theorem dvB_t {m : Mc} {t : Tk} : dvB m t = true ↔ Dv m.lD t.dz t.dl := by simp [dvB]
theorem dvB_f {m : Mc} {t : Tk} : dvB m t = false ↔ ¬ Dv m.lD t.dz t.dl := by simp [dvB]
theorem Dv.ge {n : Nat} {zs : List Int} : ∀ {k : Nat}, Dv n zs k → -1 ≤ ahdD zs k ∧ ahdD zs k ≤ (n : Int) - 1
  | 0, _ => by simp [ahdD]; omega
  | k + 1, h => by
    have h1 := h k (by omega)
    have h2 := Dv.ge (k := k) (fun i hi => h i (by omega))
    simp only [ahdD]; omega
theorem Dv.more {n : Nat} {zs : List Int} {k : Nat} (h : Dv n zs k) (h1 : ahdD zs k + 1 ≤ zs.getD k 0 ∧ zs.getD k 0 ≤ (n : Int) - 1) : Dv n zs (k + 1) := fun i hi => by
  by_cases hk : i < k
  · exact h i hk
  · obtain rfl : i = k := by omega
    exact h1
/-- may t be, on m? -/
def tkB (m : Mc) (t : Tk) : Bool := tmB m t && scB m t && dvB m t

/-! ### the program's -/

end Go.Proofs.Ytilafcplijgjjaa.TK
