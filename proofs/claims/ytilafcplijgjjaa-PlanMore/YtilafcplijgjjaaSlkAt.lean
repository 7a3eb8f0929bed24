/- Views: what lies where, and what of it stays; a view as an argument. -/
import Derived.Test.YtilafcplijgjjaaTskChk2
import Derived.Test.YtilafcplijgjjaaJobLst
import Derived.Test.YtilafcplijgjjaaLckMem
import Derived.Test.YtilafcplijgjjaaOpen
namespace Go.Proofs.Ytilafcplijgjjaa.SK
open Go.ChangeShapes Go.WideShapes Go.ChangeAt Go.RowKit Go.Deep Go.Proofs.Ytilafcplijgjjaa.AR Go.Proofs.Ytilafcplijgjjaa.TB Go.Proofs.Ytilafcplijgjjaa.TK Go.Proofs.Ytilafcplijgjjaa.JB
open Go.Proofs.Ytilafcplijgjjaa.LK (Hd atH HsAt C3)

/-- a view: a machine, tasks, moments, jobs, what is held, and now -/
structure Vw where
  m : Mc
  ta : Option Addr
  tl : Nat
  tc : Nat
  T : List Tk
  na : Option Addr
  nl : Nat
  nc : Nat
  N : List Int
  ja : Option Addr
  jl : Nat
  jc : Nat
  J : List Jb
  ha : Option Addr
  hl : Nat
  hc : Nat
  H : List Hd
  now : Int

/-- the program's view, and the document's own -/
def Vw.v (v : Vw) : Value := .agg #[.slice v.m.aL v.m.lL v.m.cL, .slice v.m.aS v.m.lS v.m.cS, .slice v.m.aD v.m.lD v.m.cD, .int .i64 v.m.idle, .int .i64 v.m.crit, .int .i64 v.m.sw, .int .i64 v.m.swe, .int .i64 v.m.sems, .int .i64 v.m.hor, .slice v.ta v.tl v.tc, .slice v.na v.nl v.nc, .slice v.ja v.jl v.jc, .slice v.ha v.hl v.hc, .int .i64 v.now]
def Vw.rv (v : Vw) (a : Int) : Value := .agg #[.slice v.m.aL v.m.lL v.m.cL, .slice v.m.aS v.m.lS v.m.cS, .slice v.m.aD v.m.lD v.m.cD, .int .i64 v.m.idle, .int .i64 v.m.crit, .int .i64 v.m.sw, .int .i64 v.m.swe, .int .i64 v.m.sems, .int .i64 v.m.hor, .slice v.ta v.tl v.tc, .slice v.na v.nl v.nc, .slice v.ja v.jl v.jc, .slice v.ha v.hl v.hc, .int .i64 v.now, .int .i64 a]

/-- all that it names lies there -/
structure VL (w : World) (v : Vw) : Prop where
  m : v.m.At w
  t : LAt w v.ta v.tl v.T
  n : NAt w v.na v.nl v.N
  j : JsAt w v.ja v.jl v.J
  h : HsAt w v.ha v.hl v.H
  hy : v.hl * 24 ≤ 140737488351232

theorem VL.kept {w w' : World} {v : Vw} (h : VL w v) (k : Kp w w') : VL w' v := ⟨h.m.kept k, h.t.kept k, h.n.kept k, h.j.kept k, h.h.kp (LK.kp_of_tb k), h.hy⟩

/-- a block with the document's own view in it -/
structure B15 (w : World) (g : Nat) (v : Vw) (a : Int) : Prop where
  blk : w.heap[g]? = some (.cells #[.slice v.m.aL v.m.lL v.m.cL, .slice v.m.aS v.m.lS v.m.cS, .slice v.m.aD v.m.lD v.m.cD, .int .i64 v.m.idle, .int .i64 v.m.crit, .int .i64 v.m.sw, .int .i64 v.m.swe, .int .i64 v.m.sems, .int .i64 v.m.hor, .slice v.ta v.tl v.tc, .slice v.na v.nl v.nc, .slice v.ja v.jl v.jc, .slice v.ha v.hl v.hc, .int .i64 v.now, .int .i64 a] 32 (0, 0))
theorem B15.lt {w : World} {g : Nat} {v : Vw} {a : Int} (h : B15 w g v a) : g < w.heap.size := lt_blk h.blk
theorem B15.all {w : World} {g : Nat} {v : Vw} {a : Int} (h : B15 w g v a) : w.cell? ⟨g, 0, none⟩ = some (.slice v.m.aL v.m.lL v.m.cL) ∧ w.cell? ⟨g, 1, none⟩ = some (.slice v.m.aS v.m.lS v.m.cS) ∧ w.cell? ⟨g, 2, none⟩ = some (.slice v.m.aD v.m.lD v.m.cD) ∧ w.cell? ⟨g, 3, none⟩ = some (.int .i64 v.m.idle) ∧ w.cell? ⟨g, 4, none⟩ = some (.int .i64 v.m.crit) ∧ w.cell? ⟨g, 5, none⟩ = some (.int .i64 v.m.sw) ∧ w.cell? ⟨g, 6, none⟩ = some (.int .i64 v.m.swe) ∧ w.cell? ⟨g, 7, none⟩ = some (.int .i64 v.m.sems) ∧ w.cell? ⟨g, 8, none⟩ = some (.int .i64 v.m.hor) ∧ w.cell? ⟨g, 9, none⟩ = some (.slice v.ta v.tl v.tc) ∧ w.cell? ⟨g, 10, none⟩ = some (.slice v.na v.nl v.nc) ∧ w.cell? ⟨g, 11, none⟩ = some (.slice v.ja v.jl v.jc) ∧ w.cell? ⟨g, 12, none⟩ = some (.slice v.ha v.hl v.hc) ∧ w.cell? ⟨g, 13, none⟩ = some (.int .i64 v.now) ∧ w.cell? ⟨g, 14, none⟩ = some (.int .i64 a) := by simp [World.cell?, h.blk]
theorem B15.fr {w : World} {g : Nat} {v : Vw} {a : Int} (h : B15 w g v a) (i : Nat) : w.frozen? ⟨g, i, none⟩ = false := by simp [World.frozen?, h.blk]
theorem B15.kp {w w' : World} {g : Nat} {v : Vw} {a : Int} (h : B15 w g v a) (k : Kp w w') : B15 w' g v a := ⟨kp_block h.blk k⟩
theorem b15_new (w : World) (v : Vw) (a : Int) : B15 (w.alloc (.cells #[.slice v.m.aL v.m.lL v.m.cL, .slice v.m.aS v.m.lS v.m.cS, .slice v.m.aD v.m.lD v.m.cD, .int .i64 v.m.idle, .int .i64 v.m.crit, .int .i64 v.m.sw, .int .i64 v.m.swe, .int .i64 v.m.sems, .int .i64 v.m.hor, .slice v.ta v.tl v.tc, .slice v.na v.nl v.nc, .slice v.ja v.jl v.jc, .slice v.ha v.hl v.hc, .int .i64 v.now, .int .i64 a] 32)) w.heap.size v a := ⟨heap_alloc_at w _⟩
theorem rview_box (w : World) (v : Vw) (a : Int) : ∃ W0, Hid (W0 = w.alloc (.cells #[.slice v.m.aL v.m.lL v.m.cL, .slice v.m.aS v.m.lS v.m.cS, .slice v.m.aD v.m.lD v.m.cD, .int .i64 v.m.idle, .int .i64 v.m.crit, .int .i64 v.m.sw, .int .i64 v.m.swe, .int .i64 v.m.sems, .int .i64 v.m.hor, .slice v.ta v.tl v.tc, .slice v.na v.nl v.nc, .slice v.ja v.jl v.jc, .slice v.ha v.hl v.hc, .int .i64 v.now, .int .i64 a] 32)) ∧ Kp w W0 ∧ B15 W0 w.heap.size v a := ⟨_, rfl, (Kp.refl _).alloc _, b15_new w v a⟩

/-- with other lists -/
def Vw.setH (v : Vw) (a : Option Addr) (l c : Nat) (H : List Hd) : Vw := { v with ha := a, hl := l, hc := c, H := H }
def Vw.setJ (v : Vw) (a : Option Addr) (l c : Nat) (J : List Jb) : Vw := { v with ja := a, jl := l, jc := c, J := J }
def Vw.setN (v : Vw) (a : Option Addr) (l c : Nat) (N : List Int) : Vw := { v with na := a, nl := l, nc := c, N := N }
theorem B15.setH {w : World} {g : Nat} {v : Vw} {x : Int} (h : B15 w g v x) (a : Option Addr) (l c : Nat) (H : List Hd) : B15 (w.setCell ⟨g, 12, none⟩ (.slice a l c)) g (v.setH a l c H) x := ⟨(heap_setCell_same w g 12 _ _ (.slice a l c) h.blk).trans rfl⟩
theorem B15.setJ {w : World} {g : Nat} {v : Vw} {x : Int} (h : B15 w g v x) (a : Option Addr) (l c : Nat) (J : List Jb) : B15 (w.setCell ⟨g, 11, none⟩ (.slice a l c)) g (v.setJ a l c J) x := ⟨(heap_setCell_same w g 11 _ _ (.slice a l c) h.blk).trans rfl⟩
theorem B15.setN {w : World} {g : Nat} {v : Vw} {x : Int} (h : B15 w g v x) (a : Option Addr) (l c : Nat) (N : List Int) : B15 (w.setCell ⟨g, 10, none⟩ (.slice a l c)) g (v.setN a l c N) x := ⟨(heap_setCell_same w g 10 _ _ (.slice a l c) h.blk).trans rfl⟩
theorem B15.other {w : World} {g : Nat} {v : Vw} {x : Int} (h : B15 w g v x) {p : Addr} (hp : g ≠ p.block) (u : Value) : B15 (w.setCell p u) g v x := ⟨(heap_setCell_other w p g u hp).trans h.blk⟩

/-! ### as an argument -/

theorem cells_sv : Try.prog.cellsOf 32 = 15 := by kernel_rfl
theorem cells_sts : Try.prog.cellsOf 27 = 1 := by kernel_rfl
theorem cells_sjs : Try.prog.cellsOf 29 = 1 := by kernel_rfl
theorem cells_shs : Try.prog.cellsOf 30 = 1 := by kernel_rfl
theorem cells_sh : Try.prog.cellsOf 50 = 3 := by kernel_rfl
theorem bytes_sh : Try.prog.bytesOf 50 = 24 := by kernel_rfl

theorem list15 {α : Type} {l : List α} (h : l.length = 15) : ∃ a0 a1 a2 a3 a4 a5 a6 a7 a8 a9 a10 a11 a12 a13 a14, l = [a0, a1, a2, a3, a4, a5, a6, a7, a8, a9, a10, a11, a12, a13, a14] := by
  match l, h with
  | [a0, a1, a2, a3, a4, a5, a6, a7, a8, a9, a10, a11, a12, a13, a14], _ => exact ⟨a0, a1, a2, a3, a4, a5, a6, a7, a8, a9, a10, a11, a12, a13, a14, rfl⟩

theorem array15 {α : Type} {a : Array α} (h : a.size = 15) : ∃ a0 a1 a2 a3 a4 a5 a6 a7 a8 a9 a10 a11 a12 a13 a14, a = #[a0, a1, a2, a3, a4, a5, a6, a7, a8, a9, a10, a11, a12, a13, a14] := by
  obtain ⟨l⟩ := a
  obtain ⟨a0, a1, a2, a3, a4, a5, a6, a7, a8, a9, a10, a11, a12, a13, a14, rfl⟩ := list15 (l := l) h
  exact ⟨a0, a1, a2, a3, a4, a5, a6, a7, a8, a9, a10, a11, a12, a13, a14, rfl⟩

theorem list7 {α : Type} {l : List α} (h : l.length = 7) : ∃ a0 a1 a2 a3 a4 a5 a6, l = [a0, a1, a2, a3, a4, a5, a6] := by
  match l, h with
  | [a0, a1, a2, a3, a4, a5, a6], _ => exact ⟨a0, a1, a2, a3, a4, a5, a6, rfl⟩

section
variable {H : Type} {enc : TypeId × Value → H} {W : World} {base : Nat} {spare : Nat → Bool} {held : Bool}

/-- the nine cells of a machine -/
theorem open_mcells {n : Nat} {cs : List Value} {x : DataW H × List MemPlace} (hf : DataW.trod enc Try.prog W base spare held n 26 cs = some x) :
    ∃ m : Mc, cs = [.slice m.aL m.lL m.cL, .slice m.aS m.lS m.cS, .slice m.aD m.lD m.cD, .int .i64 m.idle, .int .i64 m.crit, .int .i64 m.sw, .int .i64 m.swe, .int .i64 m.sems, .int .i64 m.hor] ∧ m.At W := by
  obtain ⟨xs, n, _, _, hlen, hxl, hall⟩ := DataW.trod_struct Try.underlying26 hf
  rw [cells_plat] at hlen
  obtain ⟨c0, c1, c2, c3, c4, c5, c6, c7, c8, rfl⟩ := list9 hlen
  obtain ⟨x0, x1, x2, x3, x4, x5, x6, x7, x8, rfl⟩ := list9 (l := xs) hxl
  have f0 : DataW.trod enc Try.prog W base spare held n 22 [c0] = some x0 := by have h' : DataW.trod enc Try.prog W base spare held n 22 (([c0, c1, c2, c3, c4, c5, c6, c7, c8].drop 0).take (Try.prog.cellsOf 22)) = some x0 := hall 0 _ rfl; rw [cells_ls] at h'; exact h'
  have f1 : DataW.trod enc Try.prog W base spare held n 23 [c1] = some x1 := by have h' : DataW.trod enc Try.prog W base spare held n 23 (([c0, c1, c2, c3, c4, c5, c6, c7, c8].drop 1).take (Try.prog.cellsOf 23)) = some x1 := hall 1 _ rfl; rw [cells_ss] at h'; exact h'
  have f2 : DataW.trod enc Try.prog W base spare held n 24 [c2] = some x2 := by have h' : DataW.trod enc Try.prog W base spare held n 24 (([c0, c1, c2, c3, c4, c5, c6, c7, c8].drop 2).take (Try.prog.cellsOf 24)) = some x2 := hall 2 _ rfl; rw [cells_ds] at h'; exact h'
  have f3 : DataW.trod enc Try.prog W base spare held n 3 [c3] = some x3 := by have h' : DataW.trod enc Try.prog W base spare held n 3 (([c0, c1, c2, c3, c4, c5, c6, c7, c8].drop 3).take (Try.prog.cellsOf 3)) = some x3 := hall 3 _ rfl; rw [cells_int] at h'; exact h'
  have f4 : DataW.trod enc Try.prog W base spare held n 3 [c4] = some x4 := by have h' : DataW.trod enc Try.prog W base spare held n 3 (([c0, c1, c2, c3, c4, c5, c6, c7, c8].drop 4).take (Try.prog.cellsOf 3)) = some x4 := hall 4 _ rfl; rw [cells_int] at h'; exact h'
  have f5 : DataW.trod enc Try.prog W base spare held n 3 [c5] = some x5 := by have h' : DataW.trod enc Try.prog W base spare held n 3 (([c0, c1, c2, c3, c4, c5, c6, c7, c8].drop 5).take (Try.prog.cellsOf 3)) = some x5 := hall 5 _ rfl; rw [cells_int] at h'; exact h'
  have f6 : DataW.trod enc Try.prog W base spare held n 3 [c6] = some x6 := by have h' : DataW.trod enc Try.prog W base spare held n 3 (([c0, c1, c2, c3, c4, c5, c6, c7, c8].drop 6).take (Try.prog.cellsOf 3)) = some x6 := hall 6 _ rfl; rw [cells_int] at h'; exact h'
  have f7 : DataW.trod enc Try.prog W base spare held n 3 [c7] = some x7 := by have h' : DataW.trod enc Try.prog W base spare held n 3 (([c0, c1, c2, c3, c4, c5, c6, c7, c8].drop 7).take (Try.prog.cellsOf 3)) = some x7 := hall 7 _ rfl; rw [cells_int] at h'; exact h'
  have f8 : DataW.trod enc Try.prog W base spare held n 3 [c8] = some x8 := by have h' : DataW.trod enc Try.prog W base spare held n 3 (([c0, c1, c2, c3, c4, c5, c6, c7, c8].drop 8).take (Try.prog.cellsOf 3)) = some x8 := hall 8 _ rfl; rw [cells_int] at h'; exact h'
  obtain ⟨aL, lL, cL, rL, rfl, m1, n1⟩ := open_levs f0
  obtain ⟨aS, lS, cS, rS, rfl, m2, n2⟩ := open_slps f1
  obtain ⟨aD, lD, cD, rD, rfl, m3, n3⟩ := open_devs f2
  obtain ⟨y3, rfl⟩ := open_num f3
  obtain ⟨y4, rfl⟩ := open_num f4
  obtain ⟨y5, rfl⟩ := open_num f5
  obtain ⟨y6, rfl⟩ := open_num f6
  obtain ⟨y7, rfl⟩ := open_num f7
  obtain ⟨y8, rfl⟩ := open_num f8
  exact ⟨⟨aL, lL, cL, rL, aS, lS, cS, rS, aD, lD, cD, rD, y3, y4, y5, y6, y7, y8⟩, rfl, m1, m2, m3, n1, n2, n3⟩

theorem open_tlist {fuel : Nat} {c : Value} {x : DataW H × List MemPlace} (hf : DataW.trod enc Try.prog W base spare held fuel 27 [c] = some x) (hz : ∀ q ∈ x.1.weights Try.prog 27, q ≤ reachBytes) :
    ∃ ao len cap L, c = .slice ao len cap ∧ LAt W ao len L ∧ len * 64 ≤ 140737488351232 := by
  rcases open_slice Try.underlying27 hf with ⟨hcs, hd⟩ | ⟨a, len, cap, m, n, D, Pl, hcs, hb, hl, hm, hmm, hd, hx⟩
  · simp only [List.cons.injEq, and_true] at hcs
    exact ⟨_, _, _, [], hcs, ⟨rfl, fun t ht => by simp at ht, .inl rfl, by omega⟩, by omega⟩
  · simp only [List.cons.injEq, and_true] at hcs
    subst hd
    have hlm : len ≤ m := by rw [hmm]; split <;> omega
    have hw : ∀ i, i < len → ∀ q ∈ (D i).weights Try.prog 39, q ≤ reachBytes := by
      intro i hi q hq
      refine hz q ?_
      simp only [DataW.weights, Try.underlying27, List.mem_cons, List.mem_append]
      exact .inr (.inl (weights_all (List.mem_map.2 ⟨i, by simpa using hi, rfl⟩) q hq))
    have hby : len * 64 ≤ 140737488351232 := by
      have := hz ((len + (m - len)) * 64) (by simp [DataW.weights, Try.underlying27, bytes_tk])
      simp only [reachBytes] at this
      have : len * 64 ≤ (len + (m - len)) * 64 := Nat.mul_le_mul_right _ (Nat.le_add_right _ _)
      omega
    have each : ∀ i, i < len → ∃ t : Tk, TAt W t ∧ ∀ j, j < 4 → W.cell? (a.add (i * 4 + j)) = some (t.cell j) := by
      intro i hi
      obtain ⟨cs', h1, h2⟩ := hx i (by omega)
      rw [cells_tk] at h1
      obtain ⟨_, hlen, hcell⟩ := World.cells?_some h1
      obtain ⟨t, rfl, ht⟩ := open_tcells h2 (hw i hi)
      refine ⟨t, ht, fun j hj => ?_⟩
      have := hcell j hj
      rw [add_add] at this
      rw [this]
      match j, hj with
      | 0, _ => rfl
      | 1, _ => rfl
      | 2, _ => rfl
      | 3, _ => rfl
    haveI : Inhabited Tk := ⟨⟨0, 0, none, 0, 0, [], none, 0, 0, []⟩⟩
    obtain ⟨f, hf'⟩ := choose_lt each
    refine ⟨some a, len, cap, (List.range len).map f, hcs, ⟨by simp, ?_, ?_, by omega⟩, hby⟩
    · intro t ht
      simp only [List.mem_map, List.mem_range] at ht
      obtain ⟨i, hi, rfl⟩ := ht
      exact (hf' i hi).1
    · by_cases hz0 : len = 0
      · exact .inl hz0
      · right
        obtain ⟨b, off, spot⟩ := a
        have hc := (hf' 0 (by omega)).2 0 (by omega)
        have hs : spot = none := by
          have := World.cell?_spot hc
          rw [show ((⟨b, off, spot⟩ : Addr).add (0 * 4 + 0)).spot = (⟨b, off, spot⟩ : Addr).spot from by simp [Addr.add]] at this
          exact this
        subst hs
        refine ⟨b, off, rfl, World.block_lt_of_cell? W _ (by simpa [Addr.add] using hc), fun i j t hi hj => ?_⟩
        have hil : i < len := by
          have := (List.getElem?_eq_some_iff.1 hi).1
          simpa using this
        have ht : t = f i := by simp [hil] at hi; exact hi.symm
        subst ht
        have := (hf' i hil).2 j hj
        rw [add_plain] at this
        rw [show off + i * 4 + j = off + (i * 4 + j) from by omega, this]

theorem open_jlist {fuel : Nat} {c : Value} {x : DataW H × List MemPlace} (hf : DataW.trod enc Try.prog W base spare held fuel 29 [c] = some x) (hz : ∀ q ∈ x.1.weights Try.prog 29, q ≤ reachBytes) :
    ∃ ao len cap L, c = .slice ao len cap ∧ JsAt W ao len L := by
  rcases open_slice Try.underlying29 hf with ⟨hcs, hd⟩ | ⟨a, len, cap, m, n, D, Pl, hcs, hb, hl, hm, hmm, hd, hx⟩
  · simp only [List.cons.injEq, and_true] at hcs
    exact ⟨_, _, _, [], hcs, ⟨rfl, fun t ht => by simp at ht, .inl rfl, by omega⟩⟩
  · simp only [List.cons.injEq, and_true] at hcs
    subst hd
    have hlm : len ≤ m := by rw [hmm]; split <;> omega
    have hby : len * 48 ≤ 140737488351232 := by
      have := hz ((len + (m - len)) * 48) (by simp [DataW.weights, Try.underlying29, bytes_jb])
      simp only [reachBytes] at this
      have : len * 48 ≤ (len + (m - len)) * 48 := Nat.mul_le_mul_right _ (Nat.le_add_right _ _)
      omega
    have each : ∀ i, i < len → ∃ j : Jb, JI j ∧ ∀ q, q < 6 → W.cell? (a.add (i * 6 + q)) = some (j.cell q) := by
      intro i hi
      obtain ⟨cs', h1, h2⟩ := hx i (by omega)
      rw [cells_jb] at h1
      obtain ⟨_, hlen, hcell⟩ := World.cells?_some h1
      obtain ⟨j, rfl, hj⟩ := open_jcells h2
      refine ⟨j, hj, fun q hq => ?_⟩
      have := hcell q hq
      rw [add_add] at this
      rw [this]
      match q, hq with
      | 0, _ => rfl
      | 1, _ => rfl
      | 2, _ => rfl
      | 3, _ => rfl
      | 4, _ => rfl
      | 5, _ => rfl
    haveI : Inhabited Jb := ⟨⟨0, 0, 0, 0, 0, false⟩⟩
    obtain ⟨f, hf'⟩ := choose_lt each
    refine ⟨some a, len, cap, (List.range len).map f, hcs, ⟨by simp, ?_, ?_, hby⟩⟩
    · intro t ht
      simp only [List.mem_map, List.mem_range] at ht
      obtain ⟨i, hi, rfl⟩ := ht
      exact (hf' i hi).1
    · by_cases hz0 : len = 0
      · exact .inl hz0
      · right
        obtain ⟨b, off, spot⟩ := a
        have hc := (hf' 0 (by omega)).2 0 (by omega)
        have hs : spot = none := by
          have := World.cell?_spot hc
          rw [show ((⟨b, off, spot⟩ : Addr).add (0 * 6 + 0)).spot = (⟨b, off, spot⟩ : Addr).spot from by simp [Addr.add]] at this
          exact this
        subst hs
        refine ⟨b, off, rfl, World.block_lt_of_cell? W _ (by simpa [Addr.add] using hc), fun i q j hi hq => ?_⟩
        have hil : i < len := by
          have := (List.getElem?_eq_some_iff.1 hi).1
          simpa using this
        have ht : j = f i := by simp [hil] at hi; exact hi.symm
        have := (hf' i hil).2 q hq
        rw [add_plain] at this
        rw [show off + i * 6 + q = off + (i * 6 + q) from by omega, this, ht]

theorem open_hlist {fuel : Nat} {c : Value} {x : DataW H × List MemPlace} (hf : DataW.trod enc Try.prog W base spare held fuel 30 [c] = some x) (hz : ∀ q ∈ x.1.weights Try.prog 30, q ≤ reachBytes) :
    ∃ ao len cap L, c = .slice ao len cap ∧ HsAt W ao len L ∧ len * 24 ≤ 140737488351232 := by
  obtain ⟨ao, len, cap, rows, hcs, hra, h1, h2, hd⟩ := open_recs Try.underlying30 Try.underlying50 (by intro j f hj; match j, hj with | 0, hj => simp at hj; subst hj; exact ⟨rfl, cells_int, Try.underlying3⟩ | 1, hj => simp at hj; subst hj; exact ⟨rfl, cells_int, Try.underlying3⟩ | 2, hj => simp at hj; subst hj; exact ⟨rfl, cells_int, Try.underlying3⟩ | j + 3, hj => simp at hj) cells_sh (by decide) hf
  simp only [List.cons.injEq, and_true] at hcs
  have hby : len * 24 ≤ 140737488351232 := by
    rcases hd with ⟨_, h0⟩ | ⟨elems, sp, hd, hel⟩
    · rw [h0]; omega
    · have := hz ((elems.length + sp.length) * 24) (by rw [hd]; simp [DataW.weights, Try.underlying30, bytes_sh])
      simp only [reachBytes] at this
      rw [← hel]
      have : elems.length * 24 ≤ (elems.length + sp.length) * 24 := Nat.mul_le_mul_right _ (Nat.le_add_right _ _)
      omega
  refine ⟨ao, len, cap, rows.map fun r => ⟨r.getD 0 0, r.getD 1 0, r.getD 2 0⟩, hcs, ⟨by rw [List.length_map]; exact hra.1, ?_⟩, hby⟩
  rcases hra.2.2 with h0 | ⟨b, off, e, hlt, hc⟩
  · exact .inl h0
  · refine .inr ⟨b, off, e, hlt, fun i hi => ?_⟩
    have hil : i < rows.length := by have := hra.1; omega
    have ea : atH (rows.map fun r => (⟨r.getD 0 0, r.getD 1 0, r.getD 2 0⟩ : Hd)) i = ⟨(rows.getD i []).getD 0 0, (rows.getD i []).getD 1 0, (rows.getD i []).getD 2 0⟩ := by
      simp [atH, hil]
    rw [ea]
    have a0 := hc i 0 hi (by decide)
    have a1 := hc i 1 hi (by decide)
    have a2 := hc i 2 hi (by decide)
    exact ⟨a0, a1, a2, hlt⟩

/-- the fifteen cells of a view, and how many tasks at most -/
theorem open_viewT {r : Reach} {b0 : Nat} {v : Value} {d : DataW H} {p : List MemPlace} (hv : Value.okWide Try.prog W r b0 32 v) (h : DataW.Trod enc Try.prog W base spare held 32 v d p) (hz : ∀ q ∈ d.weights Try.prog 32, q ≤ reachBytes) :
    ∃ (u : Vw) (a : Int), v = u.rv a ∧ VL W u ∧ I64 u.now ∧ I64 a ∧ u.tl * 64 ≤ 140737488351232 := by
  obtain ⟨cs, rfl, hsz⟩ := okWide_struct Try.underlying32 hv
  obtain ⟨c0, c1, c2, c3, c4, c5, c6, c7, c8, c9, c10, c11, c12, c13, c14, rfl⟩ := array15 (hsz.trans cells_sv)
  obtain ⟨fuel, hf⟩ := h
  obtain ⟨xs, n, _, hx, _, hxl, hall⟩ := DataW.trod_struct Try.underlying32 hf
  obtain ⟨x0, x1, x2, x3, x4, x5, x6, rfl⟩ := list7 (l := xs) hxl
  have f0 : DataW.trod enc Try.prog W base spare held n 26 [c0, c1, c2, c3, c4, c5, c6, c7, c8] = some x0 := by have h' : DataW.trod enc Try.prog W base spare held n 26 (([c0, c1, c2, c3, c4, c5, c6, c7, c8, c9, c10, c11, c12, c13, c14].drop 0).take (Try.prog.cellsOf 26)) = some x0 := hall 0 _ rfl; rw [cells_plat] at h'; exact h'
  have f1 : DataW.trod enc Try.prog W base spare held n 27 [c9] = some x1 := by have h' : DataW.trod enc Try.prog W base spare held n 27 (([c0, c1, c2, c3, c4, c5, c6, c7, c8, c9, c10, c11, c12, c13, c14].drop 9).take (Try.prog.cellsOf 27)) = some x1 := hall 1 _ rfl; rw [cells_sts] at h'; exact h'
  have f2 : DataW.trod enc Try.prog W base spare held n 28 [c10] = some x2 := by have h' : DataW.trod enc Try.prog W base spare held n 28 (([c0, c1, c2, c3, c4, c5, c6, c7, c8, c9, c10, c11, c12, c13, c14].drop 10).take (Try.prog.cellsOf 28)) = some x2 := hall 2 _ rfl; rw [cells_is] at h'; exact h'
  have f3 : DataW.trod enc Try.prog W base spare held n 29 [c11] = some x3 := by have h' : DataW.trod enc Try.prog W base spare held n 29 (([c0, c1, c2, c3, c4, c5, c6, c7, c8, c9, c10, c11, c12, c13, c14].drop 11).take (Try.prog.cellsOf 29)) = some x3 := hall 3 _ rfl; rw [cells_sjs] at h'; exact h'
  have f4 : DataW.trod enc Try.prog W base spare held n 30 [c12] = some x4 := by have h' : DataW.trod enc Try.prog W base spare held n 30 (([c0, c1, c2, c3, c4, c5, c6, c7, c8, c9, c10, c11, c12, c13, c14].drop 12).take (Try.prog.cellsOf 30)) = some x4 := hall 4 _ rfl; rw [cells_shs] at h'; exact h'
  have f5 : DataW.trod enc Try.prog W base spare held n 3 [c13] = some x5 := by have h' : DataW.trod enc Try.prog W base spare held n 3 (([c0, c1, c2, c3, c4, c5, c6, c7, c8, c9, c10, c11, c12, c13, c14].drop 13).take (Try.prog.cellsOf 3)) = some x5 := hall 5 _ rfl; rw [cells_int] at h'; exact h'
  have f6 : DataW.trod enc Try.prog W base spare held n 3 [c14] = some x6 := by have h' : DataW.trod enc Try.prog W base spare held n 3 (([c0, c1, c2, c3, c4, c5, c6, c7, c8, c9, c10, c11, c12, c13, c14].drop 14).take (Try.prog.cellsOf 3)) = some x6 := hall 6 _ rfl; rw [cells_int] at h'; exact h'
  simp only [Prod.mk.injEq] at hx
  obtain ⟨hx, _⟩ := hx
  have z1 : ∀ q ∈ x1.1.weights Try.prog 27, q ≤ reachBytes := fun q hq => hz q (by rw [hx]; simp [DataW.weights, Try.underlying32, DataW.weightsEach, hq])
  have z2 : ∀ q ∈ x2.1.weights Try.prog 28, q ≤ reachBytes := fun q hq => hz q (by rw [hx]; simp [DataW.weights, Try.underlying32, DataW.weightsEach, hq])
  have z3 : ∀ q ∈ x3.1.weights Try.prog 29, q ≤ reachBytes := fun q hq => hz q (by rw [hx]; simp [DataW.weights, Try.underlying32, DataW.weightsEach, hq])
  have z4 : ∀ q ∈ x4.1.weights Try.prog 30, q ≤ reachBytes := fun q hq => hz q (by rw [hx]; simp [DataW.weights, Try.underlying32, DataW.weightsEach, hq])
  obtain ⟨m, hm, m0⟩ := open_mcells f0
  simp only [List.cons.injEq, and_true] at hm
  obtain ⟨e0, e1, e2, e3, e4, e5, e6, e7, e8⟩ := hm
  subst e0; subst e1; subst e2; subst e3; subst e4; subst e5; subst e6; subst e7; subst e8
  obtain ⟨ta, tl, tc, T, rfl, m1, y1⟩ := open_tlist f1 z1
  obtain ⟨na, nl, nc, N, rfl, m2⟩ := open_tints f2 z2
  obtain ⟨ja, jl, jc, J, rfl, m3⟩ := open_jlist f3 z3
  obtain ⟨ha, hl, hc, Hs, rfl, m4, y4⟩ := open_hlist f4 z4
  obtain ⟨now, rfl, i5⟩ := open_jwnum f5
  obtain ⟨a, rfl, i6⟩ := open_jwnum f6
  exact ⟨⟨m, ta, tl, tc, T, na, nl, nc, N, ja, jl, jc, J, ha, hl, hc, Hs, now⟩, a, rfl, ⟨m0, m1, m2, m3, m4, y4⟩, i5, i6, y1⟩

/-- the fifteen cells of a view -/
theorem open_view {r : Reach} {b0 : Nat} {v : Value} {d : DataW H} {p : List MemPlace} (hv : Value.okWide Try.prog W r b0 32 v) (h : DataW.Trod enc Try.prog W base spare held 32 v d p) (hz : ∀ q ∈ d.weights Try.prog 32, q ≤ reachBytes) :
    ∃ (u : Vw) (a : Int), v = u.rv a ∧ VL W u ∧ I64 u.now ∧ I64 a := by
  obtain ⟨u, a, h1, h2, h3, h4, _⟩ := open_viewT hv h hz
  exact ⟨u, a, h1, h2, h3, h4⟩

end

end Go.Proofs.Ytilafcplijgjjaa.SK
