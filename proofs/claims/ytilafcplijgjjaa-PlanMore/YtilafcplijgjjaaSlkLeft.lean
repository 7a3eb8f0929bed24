/- What jobs that may come take, and how much time is left over: walked. -/
import Derived.Test.YtilafcplijgjjaaSlkHin
namespace Go.Proofs.Ytilafcplijgjjaa.SK
open Go.ChangeShapes Go.WideShapes Go.ChangeAt Go.RowKit Go.Proofs.Ytilafcplijgjjaa.AR Go.Proofs.Ytilafcplijgjjaa.TB Go.Proofs.Ytilafcplijgjjaa.TK Go.Proofs.Ytilafcplijgjjaa.JB Go.Proofs.Ytilafcplijgjjaa.FX Go.Proofs.Ytilafcplijgjjaa.AD
open Go.Proofs.Ytilafcplijgjjaa.LK (Hd atH HsAt C3)

theorem ptI_at {v : Vw} {k : Nat} {t : Tk} (h : v.T[k]? = some t) : ptI v k = ut (qn v.m t.c 0) t.p := by simp [ptI, h]

/-- a task's box, in every world to come -/
theorem tk_box (w : World) (t : Tk) : ∃ V, Hid (V = w.alloc (.cells #[.int .i64 t.p, .int .i64 t.c, .slice t.sa t.sl t.sc, .slice t.da t.dl t.dc] 39)) ∧ Kp w V ∧ ∀ W, Kp V W → W.cell? ⟨w.heap.size, 0, none⟩ = some (.int .i64 t.p) ∧ W.cell? ⟨w.heap.size, 1, none⟩ = some (.int .i64 t.c) ∧ W.cell? ⟨w.heap.size, 2, none⟩ = some (.slice t.sa t.sl t.sc) ∧ W.cell? ⟨w.heap.size, 3, none⟩ = some (.slice t.da t.dl t.dc) := by
  refine ⟨_, rfl, (Kp.refl _).alloc _, fun W q => ?_⟩
  have h := kp_block (heap_alloc_at w _) q
  exact ⟨cell_of h rfl, cell_of h rfl, cell_of h rfl, cell_of h rfl⟩
/-- a job's -/
theorem jb_box (w : World) (j : Jb) : ∃ V, Hid (V = w.alloc (.cells #[.int .i64 j.t, .int .i64 j.r, .int .i64 j.d, .int .i64 j.l, .int .i64 j.x, .bool j.s] 41)) ∧ Kp w V ∧ ∀ W, Kp V W → W.cell? ⟨w.heap.size, 0, none⟩ = some (.int .i64 j.t) ∧ W.cell? ⟨w.heap.size, 1, none⟩ = some (.int .i64 j.r) ∧ W.cell? ⟨w.heap.size, 2, none⟩ = some (.int .i64 j.d) ∧ W.cell? ⟨w.heap.size, 3, none⟩ = some (.int .i64 j.l) ∧ W.cell? ⟨w.heap.size, 4, none⟩ = some (.int .i64 j.x) ∧ W.cell? ⟨w.heap.size, 5, none⟩ = some (.bool j.s) := by
  refine ⟨_, rfl, (Kp.refl _).alloc _, fun W q => ?_⟩
  have h := kp_block (heap_alloc_at w _) q
  exact ⟨cell_of h rfl, cell_of h rfl, cell_of h rfl, cell_of h rfl, cell_of h rfl, cell_of h rfl⟩

end Go.Proofs.Ytilafcplijgjjaa.SK
