/- Lists that lie in a block of their own: tasks, jobs, numbers. -/
import Derived.Test.YtilafcplijgjjaaJobLst
import Derived.Test.YtilafcplijgjjaaTskAt
namespace Go.Proofs.Ytilafcplijgjjaa.RW
open Go.ChangeShapes Go.WideShapes Go.ChangeAt Go.RowKit Go.Proofs.Ytilafcplijgjjaa.AR Go.Proofs.Ytilafcplijgjjaa.TB Go.Proofs.Ytilafcplijgjjaa.TK Go.Proofs.Ytilafcplijgjjaa.JB

theorem lt_block {w : World} {k : Nat} {b : Obj} (h : w.heap[k]? = some b) : k < w.heap.size := (Array.getElem?_eq_some_iff.1 h).1
theorem blk_cell {W : World} {g q : Nat} {xs : Array Value} {ty : TypeId} {v : Value} (h : W.heap[g]? = some (.cells xs ty (0, 0))) (e : xs[q]? = some v) : W.cell? ⟨g, q, none⟩ = some v := by simp [World.cell?, h, e]
theorem blk_kept {a b : World} {g : Nat} {o : Obj} (h : a.heap[g]? = some o) (k : Kp a b) : b.heap[g]? = some o := (k.block g (lt_block h)).trans h
theorem blk_new (w : World) (o : Obj) : (w.alloc o).heap[w.heap.size]? = some o := heap_alloc_at w o
theorem no_nums (w : World) (ao : Option Addr) : NAt w ao 0 [] := ⟨⟨rfl, fun z hz => by simp at hz, .inl rfl⟩, by omega⟩

/-- tasks, cell by cell -/
def tskC : List Tk → List Value
  | [] => []
  | t :: L => t.cell 0 :: t.cell 1 :: t.cell 2 :: t.cell 3 :: tskC L
theorem tskC_at : ∀ (L : List Tk) (i j : Nat) (t : Tk), L[i]? = some t → j < 4 → (tskC L)[i * 4 + j]? = some (t.cell j)
  | [], i, j, t, h, _ => by simp at h
  | u :: L, 0, j, t, h, hj => by
    simp only [List.getElem?_cons_zero, Option.some.injEq] at h
    subst h
    match j, hj with
    | 0, _ => simp [tskC]
    | 1, _ => simp [tskC]
    | 2, _ => simp [tskC]
    | 3, _ => simp [tskC]
  | u :: L, i + 1, j, t, h, hj => by
    simp only [List.getElem?_cons_succ] at h
    have := tskC_at L i j t h hj
    rw [show (i + 1) * 4 + j = i * 4 + j + 1 + 1 + 1 + 1 from by omega]
    simpa [tskC] using this

/-- jobs, cell by cell -/
def jobC : List Jb → List Value
  | [] => []
  | t :: L => t.cell 0 :: t.cell 1 :: t.cell 2 :: t.cell 3 :: t.cell 4 :: t.cell 5 :: jobC L
theorem jobC_at : ∀ (L : List Jb) (i j : Nat) (t : Jb), L[i]? = some t → j < 6 → (jobC L)[i * 6 + j]? = some (t.cell j)
  | [], i, j, t, h, _ => by simp at h
  | u :: L, 0, j, t, h, hj => by
    simp only [List.getElem?_cons_zero, Option.some.injEq] at h
    subst h
    match j, hj with
    | 0, _ => simp [jobC]
    | 1, _ => simp [jobC]
    | 2, _ => simp [jobC]
    | 3, _ => simp [jobC]
    | 4, _ => simp [jobC]
    | 5, _ => simp [jobC]
  | u :: L, i + 1, j, t, h, hj => by
    simp only [List.getElem?_cons_succ] at h
    have := jobC_at L i j t h hj
    rw [show (i + 1) * 6 + j = i * 6 + j + 1 + 1 + 1 + 1 + 1 + 1 from by omega]
    simpa [jobC] using this

/-- tasks in a block -/
theorem lat_block {W : World} {g : Nat} {xs : Array Value} {ty : TypeId} {L : List Tk} {n : Nat} (h : W.heap[g]? = some (.cells xs ty (0, 0))) (e : xs = (tskC L).toArray) (hn : L.length = n) (ht : ∀ t ∈ L, TAt W t) (hb : n * 64 ≤ 281474976710656) : LAt W (some ⟨g, 0, none⟩) n L := by
  refine ⟨hn, ht, .inr ⟨g, 0, rfl, lt_block h, fun i j t hi hj => ?_⟩, hb⟩
  refine blk_cell h ?_
  rw [e, show 0 + i * 4 + j = i * 4 + j from by omega]
  simpa using tskC_at L i j t hi hj

/-- jobs in a block -/
theorem jat_block {W : World} {g : Nat} {xs : Array Value} {ty : TypeId} {L : List Jb} {n : Nat} (h : W.heap[g]? = some (.cells xs ty (0, 0))) (e : xs = (jobC L).toArray) (hn : L.length = n) (hw : ∀ j ∈ L, JI j) (hb : n * 48 ≤ 140737488351232) : JsAt W (some ⟨g, 0, none⟩) n L := by
  refine ⟨hn, hw, .inr ⟨g, 0, rfl, lt_block h, fun i j t hi hj => ?_⟩, hb⟩
  refine blk_cell h ?_
  rw [e, show 0 + i * 6 + j = i * 6 + j from by omega]
  simpa using jobC_at L i j t hi hj

/-- numbers in a block -/
theorem nat_block {W : World} {g : Nat} {xs : Array Value} {ty : TypeId} {L : List Int} {n : Nat} (h : W.heap[g]? = some (.cells xs ty (0, 0))) (e : xs = (L.map (Value.int .i64)).toArray) (hn : L.length = n) (hw : ∀ z ∈ L, I64 z) (hb : n * 8 ≤ 140737488351232) : NAt W (some ⟨g, 0, none⟩) n L := by
  refine ⟨⟨hn, hw, .inr ⟨g, 0, rfl, lt_block h, fun i hi => ?_⟩⟩, hb⟩
  refine blk_cell h ?_
  rw [e, show 0 + i = i from by omega]
  simp [List.getD_eq_getElem?_getD, List.getElem?_eq_getElem (show i < L.length by omega)]

end Go.Proofs.Ytilafcplijgjjaa.RW
