/- Jobs, lists of jobs, lists of calls as arguments: what lies where. -/
import Derived.Test.YtphaedkmijdphaaRdyOps
import Derived.SizedLaws
import Derived.Deep.Slices
namespace Go.Proofs.Ytphaedkmijdphaa.RD
open Go.ChangeShapes Go.WideShapes Go.ChangeAt Go.RowKit Go.Deep Go.Proofs.Ytphaedkmijdphaa.AR Go.Proofs.Ytphaedkmijdphaa.HP Go.Proofs.Ytphaedkmijdphaa.HM

/-- a list of jobs that came in -/
structure JobsAt (w : World) (ao : Option Addr) (len : Nat) (L : List Jb) : Prop where
  ln : L.length = len
  wf : ∀ j ∈ L, WJ j
  row : len = 0 ∨ ∃ b off, ao = some ⟨b, off, none⟩ ∧ b < w.heap.size ∧ ∀ i, i < len → C6 w b (off + i * 6) (atJ L i)

/-- a call: its kind, its task, its job -/
structure Op3 where
  k : Int
  t : Int
  j : Jb

def zO : Op3 := ⟨0, 0, zJ⟩
def atO (L : List Op3) (i : Nat) : Op3 := L.getD i zO
theorem atO_mem {L : List Op3} {i : Nat} (h : i < L.length) : atO L i ∈ L := by simp [atO, h]

/-- a call lies there -/
structure C8 (w : World) (g o : Nat) (x : Op3) : Prop where
  k : w.cell? ⟨g, o, none⟩ = some (.int .i64 x.k)
  t : w.cell? ⟨g, o + 1, none⟩ = some (.int .i64 x.t)
  j0 : w.cell? ⟨g, o + 2, none⟩ = some (.int .i64 x.j.t)
  j1 : w.cell? ⟨g, o + 3, none⟩ = some (.int .i64 x.j.r)
  j2 : w.cell? ⟨g, o + 4, none⟩ = some (.int .i64 x.j.d)
  j3 : w.cell? ⟨g, o + 5, none⟩ = some (.int .i64 x.j.l)
  j4 : w.cell? ⟨g, o + 6, none⟩ = some (.int .i64 x.j.x)
  j5 : w.cell? ⟨g, o + 7, none⟩ = some (.bool x.j.s)
  lt : g < w.heap.size

theorem C8.kept {A : Nat → Prop} {w w' : World} {g o : Nat} {x : Op3} (h : C8 w g o x) (s : Step A w w') (hA : ¬ A g) : C8 w' g o x := by
  have q : ∀ j, w'.cell? ⟨g, j, none⟩ = w.cell? ⟨g, j, none⟩ := fun j => s.cell h.lt hA
  exact ⟨(q _).trans h.k, (q _).trans h.t, (q _).trans h.j0, (q _).trans h.j1, (q _).trans h.j2, (q _).trans h.j3, (q _).trans h.j4, (q _).trans h.j5, Nat.lt_of_lt_of_le h.lt s.size⟩

/-- a list of calls that came in -/
structure OpsAt (w : World) (ao : Option Addr) (len : Nat) (L : List Op3) : Prop where
  ln : L.length = len
  wf : ∀ o ∈ L, WJ o.j ∧ W64 o.t
  row : len = 0 ∨ ∃ b off, ao = some ⟨b, off, none⟩ ∧ b < w.heap.size ∧ ∀ i, i < len → C8 w b (off + i * 8) (atO L i)

theorem cells_i : Try.prog.cellsOf 3 = 1 := by kernel_rfl
theorem cells_b : Try.prog.cellsOf 4 = 1 := by kernel_rfl
theorem cells_j : Try.prog.cellsOf 27 = 6 := by kernel_rfl
theorem bytes_j : Try.prog.bytesOf 27 = 48 := by kernel_rfl

theorem list6 {α : Type} {l : List α} (h : l.length = 6) : ∃ a0 a1 a2 a3 a4 a5, l = [a0, a1, a2, a3, a4, a5] := by
  match l, h with
  | [a0, a1, a2, a3, a4, a5], _ => exact ⟨a0, a1, a2, a3, a4, a5, rfl⟩
theorem list3 {α : Type} {l : List α} (h : l.length = 3) : ∃ a0 a1 a2, l = [a0, a1, a2] := by
  match l, h with
  | [a0, a1, a2], _ => exact ⟨a0, a1, a2, rfl⟩
theorem list8 {α : Type} {l : List α} (h : l.length = 8) : ∃ a0 a1 a2 a3 a4 a5 a6 a7, l = [a0, a1, a2, a3, a4, a5, a6, a7] := by
  match l, h with
  | [a0, a1, a2, a3, a4, a5, a6, a7], _ => exact ⟨a0, a1, a2, a3, a4, a5, a6, a7, rfl⟩
theorem array6 {α : Type} {a : Array α} (h : a.size = 6) : ∃ a0 a1 a2 a3 a4 a5, a = #[a0, a1, a2, a3, a4, a5] := by
  obtain ⟨l⟩ := a
  obtain ⟨a0, a1, a2, a3, a4, a5, rfl⟩ := list6 (l := l) h
  exact ⟨a0, a1, a2, a3, a4, a5, rfl⟩

section
variable {H : Type} {enc : TypeId × Value → H} {W : World} {base : Nat} {spare : Nat → Bool} {held : Bool}

theorem open_rnum {n : Nat} {c : Value} {x : DataW H × List MemPlace} (h : DataW.trod enc Try.prog W base spare held n 3 [c] = some x) : ∃ y : Int, c = .int .i64 y ∧ W64 y := by
  obtain ⟨y, hy, _, hw⟩ := DataW.trod_int Try.underlying3 h
  simp only [List.cons.injEq, and_true] at hy
  exact ⟨y, hy, i64_of_wf hw⟩

theorem open_rbool {n : Nat} {c : Value} {x : DataW H × List MemPlace} (h : DataW.trod enc Try.prog W base spare held n 4 [c] = some x) : ∃ y : Bool, c = .bool y := by
  obtain ⟨y, hy, _⟩ := DataW.trod_bool Try.underlying4 h
  simp only [List.cons.injEq, and_true] at hy
  exact ⟨y, hy⟩

/-- the six cells of a job -/
theorem open_jcells {fuel : Nat} {cs : List Value} {x : DataW H × List MemPlace} (hf : DataW.trod enc Try.prog W base spare held fuel 27 cs = some x) :
    ∃ j : Jb, cs = [.int .i64 j.t, .int .i64 j.r, .int .i64 j.d, .int .i64 j.l, .int .i64 j.x, .bool j.s] ∧ WJ j := by
  obtain ⟨xs, n, _, _, hlen, hxl, hall⟩ := DataW.trod_struct Try.underlying27 hf
  rw [cells_j] at hlen
  obtain ⟨c0, c1, c2, c3, c4, c5, rfl⟩ := list6 hlen
  obtain ⟨x0, x1, x2, x3, x4, x5, rfl⟩ := list6 (l := xs) hxl
  have f0 : DataW.trod enc Try.prog W base spare held n 3 [c0] = some x0 := by have h' : DataW.trod enc Try.prog W base spare held n 3 (([c0, c1, c2, c3, c4, c5].drop 0).take (Try.prog.cellsOf 3)) = some x0 := hall 0 _ rfl; rw [cells_i] at h'; exact h'
  have f1 : DataW.trod enc Try.prog W base spare held n 3 [c1] = some x1 := by have h' : DataW.trod enc Try.prog W base spare held n 3 (([c0, c1, c2, c3, c4, c5].drop 1).take (Try.prog.cellsOf 3)) = some x1 := hall 1 _ rfl; rw [cells_i] at h'; exact h'
  have f2 : DataW.trod enc Try.prog W base spare held n 3 [c2] = some x2 := by have h' : DataW.trod enc Try.prog W base spare held n 3 (([c0, c1, c2, c3, c4, c5].drop 2).take (Try.prog.cellsOf 3)) = some x2 := hall 2 _ rfl; rw [cells_i] at h'; exact h'
  have f3 : DataW.trod enc Try.prog W base spare held n 3 [c3] = some x3 := by have h' : DataW.trod enc Try.prog W base spare held n 3 (([c0, c1, c2, c3, c4, c5].drop 3).take (Try.prog.cellsOf 3)) = some x3 := hall 3 _ rfl; rw [cells_i] at h'; exact h'
  have f4 : DataW.trod enc Try.prog W base spare held n 3 [c4] = some x4 := by have h' : DataW.trod enc Try.prog W base spare held n 3 (([c0, c1, c2, c3, c4, c5].drop 4).take (Try.prog.cellsOf 3)) = some x4 := hall 4 _ rfl; rw [cells_i] at h'; exact h'
  have f5 : DataW.trod enc Try.prog W base spare held n 4 [c5] = some x5 := by have h' : DataW.trod enc Try.prog W base spare held n 4 (([c0, c1, c2, c3, c4, c5].drop 5).take (Try.prog.cellsOf 4)) = some x5 := hall 5 _ rfl; rw [cells_b] at h'; exact h'
  obtain ⟨y0, rfl, w0⟩ := open_rnum f0
  obtain ⟨y1, rfl, _⟩ := open_rnum f1
  obtain ⟨y2, rfl, w2⟩ := open_rnum f2
  obtain ⟨y3, rfl, _⟩ := open_rnum f3
  obtain ⟨y4, rfl, _⟩ := open_rnum f4
  obtain ⟨y5, rfl⟩ := open_rbool f5
  exact ⟨⟨y0, y1, y2, y3, y4, y5⟩, rfl, w0, w2⟩

theorem open_rjb {r : Reach} {b0 : Nat} {v : Value} {d : DataW H} {p : List MemPlace} (hv : Value.okWide Try.prog W r b0 27 v) (h : DataW.Trod enc Try.prog W base spare held 27 v d p) :
    ∃ j : Jb, v = j.v ∧ WJ j := by
  obtain ⟨cs, rfl, hsz⟩ := okWide_struct Try.underlying27 hv
  obtain ⟨c0, c1, c2, c3, c4, c5, rfl⟩ := array6 (hsz.trans cells_j)
  obtain ⟨fuel, hf⟩ := h
  obtain ⟨j, e, hj⟩ := open_jcells hf
  simp only [Value.cells, List.cons.injEq, and_true] at e
  obtain ⟨e0, e1, e2, e3, e4, e5⟩ := e
  subst e0; subst e1; subst e2; subst e3; subst e4; subst e5
  exact ⟨j, rfl, hj⟩

theorem open_jobs {r : Reach} {b0 : Nat} {v : Value} {d : DataW H} {p : List MemPlace} (hv : Value.okWide Try.prog W r b0 25 v) (h : DataW.Trod enc Try.prog W base spare held 25 v d p) (hz : ∀ q ∈ d.weights Try.prog 25, q ≤ reachBytes) :
    ∃ ao len cap L, v = .slice ao len cap ∧ JobsAt W ao len L ∧ len * 48 ≤ 140737488351232 := by
  obtain ⟨z, y, x, rfl⟩ := okWide_slice Try.underlying25 hv
  obtain ⟨fuel, hf⟩ := h
  rcases open_slice Try.underlying25 hf with ⟨hcs, hd⟩ | ⟨a, len, cap, m, n, D, Pl, hcs, hb, hl, hm, hmm, hd, hx⟩
  · simp only [Value.cells, List.cons.injEq, and_true] at hcs
    exact ⟨_, _, _, [], hcs, ⟨rfl, fun t ht => by simp at ht, .inl rfl⟩, by omega⟩
  · simp only [Value.cells, List.cons.injEq, and_true] at hcs
    simp only [Prod.mk.injEq] at hd
    have hlm : len ≤ m := by rw [hmm]; split <;> omega
    have hby : len * 48 ≤ 140737488351232 := by
      have := hz ((len + (m - len)) * 48) (by rw [hd.1]; simp [DataW.weights, Try.underlying25, bytes_j])
      simp only [reachBytes] at this
      have : len * 48 ≤ (len + (m - len)) * 48 := Nat.mul_le_mul_right _ (Nat.le_add_right _ _)
      omega
    have each : ∀ i, i < len → ∃ j : Jb, WJ j ∧ ∀ q u, [.int .i64 j.t, .int .i64 j.r, .int .i64 j.d, .int .i64 j.l, .int .i64 j.x, .bool j.s][q]? = some u → W.cell? (a.add (i * 6 + q)) = some u := by
      intro i hi
      obtain ⟨cs', h1, h2⟩ := hx i (by omega)
      rw [cells_j] at h1
      obtain ⟨_, hlen, hcell⟩ := World.cells?_some h1
      obtain ⟨j, rfl, hj⟩ := open_jcells h2
      refine ⟨j, hj, fun q u hq => ?_⟩
      have hq6 : q < 6 := (List.getElem?_eq_some_iff.1 hq).1
      have := hcell q hq6
      rw [add_add] at this
      rw [this]; exact hq
    haveI : Inhabited Jb := ⟨zJ⟩
    obtain ⟨f, hf'⟩ := choose_lt each
    refine ⟨some a, len, cap, (List.range len).map f, hcs, ⟨by simp, ?_, ?_⟩, hby⟩
    · intro t ht
      simp only [List.mem_map, List.mem_range] at ht
      obtain ⟨i, hi, rfl⟩ := ht
      exact (hf' i hi).1
    · by_cases hz0 : len = 0
      · exact .inl hz0
      · right
        obtain ⟨b, off, spot⟩ := a
        have hc := (hf' 0 (by omega)).2 0 _ rfl
        have hs : spot = none := by
          have := World.cell?_spot hc
          rw [show ((⟨b, off, spot⟩ : Addr).add (0 * 6 + 0)).spot = (⟨b, off, spot⟩ : Addr).spot from by simp [Addr.add]] at this
          exact this
        subst hs
        have hbl : b < W.heap.size := World.block_lt_of_cell? W _ (by simpa [Addr.add] using hc)
        refine ⟨b, off, rfl, hbl, fun i hi => ?_⟩
        have et : atJ ((List.range len).map f) i = f i := by simp [atJ, hi]
        rw [et]
        have q := (hf' i hi).2
        have e : ∀ k, (⟨b, off, none⟩ : Addr).add (i * 6 + k) = ⟨b, off + i * 6 + k, none⟩ := fun k => by rw [add_plain]; congr 1; omega
        exact ⟨by have := q 0 _ rfl; rwa [e] at this, by have := q 1 _ rfl; rwa [e] at this, by have := q 2 _ rfl; rwa [e] at this, by have := q 3 _ rfl; rwa [e] at this, by have := q 4 _ rfl; rwa [e] at this, by have := q 5 _ rfl; rwa [e] at this, hbl⟩

end

section
variable {H : Type} {enc : TypeId × Value → H} {W : World} {base : Nat} {spare : Nat → Bool} {held : Bool}

theorem cells_o : Try.prog.cellsOf 29 = 8 := by kernel_rfl

theorem bytes_o : Try.prog.bytesOf 29 = 64 := by kernel_rfl

theorem open_ocells {fuel : Nat} {cs : List Value} {x : DataW H × List MemPlace} (hf : DataW.trod enc Try.prog W base spare held fuel 29 cs = some x) :
    ∃ o : Op3, cs = [.int .i64 o.k, .int .i64 o.t, .int .i64 o.j.t, .int .i64 o.j.r, .int .i64 o.j.d, .int .i64 o.j.l, .int .i64 o.j.x, .bool o.j.s] ∧ WJ o.j ∧ W64 o.t := by
  obtain ⟨xs, n, _, _, hlen, hxl, hall⟩ := DataW.trod_struct Try.underlying29 hf
  rw [cells_o] at hlen
  obtain ⟨c0, c1, c2, c3, c4, c5, c6, c7, rfl⟩ := list8 hlen
  obtain ⟨x0, x1, x2, rfl⟩ := list3 (l := xs) hxl
  have f0 : DataW.trod enc Try.prog W base spare held n 3 [c0] = some x0 := by have h' : DataW.trod enc Try.prog W base spare held n 3 (([c0, c1, c2, c3, c4, c5, c6, c7].drop 0).take (Try.prog.cellsOf 3)) = some x0 := hall 0 _ rfl; rw [cells_i] at h'; exact h'
  have f1 : DataW.trod enc Try.prog W base spare held n 3 [c1] = some x1 := by have h' : DataW.trod enc Try.prog W base spare held n 3 (([c0, c1, c2, c3, c4, c5, c6, c7].drop 1).take (Try.prog.cellsOf 3)) = some x1 := hall 1 _ rfl; rw [cells_i] at h'; exact h'
  have f2 : DataW.trod enc Try.prog W base spare held n 27 [c2, c3, c4, c5, c6, c7] = some x2 := by have h' : DataW.trod enc Try.prog W base spare held n 27 (([c0, c1, c2, c3, c4, c5, c6, c7].drop 2).take (Try.prog.cellsOf 27)) = some x2 := hall 2 _ rfl; rw [cells_j] at h'; exact h'
  obtain ⟨y0, rfl, _⟩ := open_rnum f0
  obtain ⟨y1, rfl, w1⟩ := open_rnum f1
  obtain ⟨j, e, hj⟩ := open_jcells f2
  refine ⟨⟨y0, y1, j⟩, ?_, hj, w1⟩
  rw [e]

theorem open_ops {r : Reach} {b0 : Nat} {v : Value} {d : DataW H} {p : List MemPlace} (hv : Value.okWide Try.prog W r b0 22 v) (h : DataW.Trod enc Try.prog W base spare held 22 v d p) (hz : ∀ q ∈ d.weights Try.prog 22, q ≤ reachBytes) :
    ∃ ao len cap L, v = .slice ao len cap ∧ OpsAt W ao len L ∧ len * 64 ≤ 140737488351232 := by
  obtain ⟨z, y, x, rfl⟩ := okWide_slice Try.underlying22 hv
  obtain ⟨fuel, hf⟩ := h
  rcases open_slice Try.underlying22 hf with ⟨hcs, hd⟩ | ⟨a, len, cap, m, n, D, Pl, hcs, hb, hl, hm, hmm, hd, hx⟩
  · simp only [Value.cells, List.cons.injEq, and_true] at hcs
    exact ⟨_, _, _, [], hcs, ⟨rfl, fun t ht => by simp at ht, .inl rfl⟩, by omega⟩
  · simp only [Value.cells, List.cons.injEq, and_true] at hcs
    simp only [Prod.mk.injEq] at hd
    have hlm : len ≤ m := by rw [hmm]; split <;> omega
    have hby : len * 64 ≤ 140737488351232 := by
      have := hz ((len + (m - len)) * 64) (by rw [hd.1]; simp [DataW.weights, Try.underlying22, bytes_o])
      simp only [reachBytes] at this
      have : len * 64 ≤ (len + (m - len)) * 64 := Nat.mul_le_mul_right _ (Nat.le_add_right _ _)
      omega
    have each : ∀ i, i < len → ∃ o : Op3, (WJ o.j ∧ W64 o.t) ∧ ∀ q u, [.int .i64 o.k, .int .i64 o.t, .int .i64 o.j.t, .int .i64 o.j.r, .int .i64 o.j.d, .int .i64 o.j.l, .int .i64 o.j.x, .bool o.j.s][q]? = some u → W.cell? (a.add (i * 8 + q)) = some u := by
      intro i hi
      obtain ⟨cs', h1, h2⟩ := hx i (by omega)
      rw [cells_o] at h1
      obtain ⟨_, hlen, hcell⟩ := World.cells?_some h1
      obtain ⟨o, rfl, ho⟩ := open_ocells h2
      refine ⟨o, ho, fun q u hq => ?_⟩
      have hq8 : q < 8 := (List.getElem?_eq_some_iff.1 hq).1
      have := hcell q hq8
      rw [add_add] at this
      rw [this]; exact hq
    haveI : Inhabited Op3 := ⟨zO⟩
    obtain ⟨f, hf'⟩ := choose_lt each
    refine ⟨some a, len, cap, (List.range len).map f, hcs, ⟨by simp, ?_, ?_⟩, hby⟩
    · intro t ht
      simp only [List.mem_map, List.mem_range] at ht
      obtain ⟨i, hi, rfl⟩ := ht
      exact (hf' i hi).1
    · by_cases hz0 : len = 0
      · exact .inl hz0
      · right
        obtain ⟨b, off, spot⟩ := a
        have hc := (hf' 0 (by omega)).2 0 _ rfl
        have hs : spot = none := by
          have := World.cell?_spot hc
          rw [show ((⟨b, off, spot⟩ : Addr).add (0 * 8 + 0)).spot = (⟨b, off, spot⟩ : Addr).spot from by simp [Addr.add]] at this
          exact this
        subst hs
        have hbl : b < W.heap.size := World.block_lt_of_cell? W _ (by simpa [Addr.add] using hc)
        refine ⟨b, off, rfl, hbl, fun i hi => ?_⟩
        have et : atO ((List.range len).map f) i = f i := by simp [atO, hi]
        rw [et]
        have q := (hf' i hi).2
        have e : ∀ k, (⟨b, off, none⟩ : Addr).add (i * 8 + k) = ⟨b, off + i * 8 + k, none⟩ := fun k => by rw [add_plain]; congr 1; omega
        exact ⟨by have := q 0 _ rfl; rwa [e] at this, by have := q 1 _ rfl; rwa [e] at this, by have := q 2 _ rfl; rwa [e] at this, by have := q 3 _ rfl; rwa [e] at this, by have := q 4 _ rfl; rwa [e] at this, by have := q 5 _ rfl; rwa [e] at this, by have := q 6 _ rfl; rwa [e] at this, by have := q 7 _ rfl; rwa [e] at this, hbl⟩

end

end Go.Proofs.Ytphaedkmijdphaa.RD
