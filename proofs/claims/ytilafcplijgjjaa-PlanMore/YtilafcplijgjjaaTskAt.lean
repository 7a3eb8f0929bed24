/- Tasks in memory: what lies where, and what of it stays; tasks and lists of tasks as arguments. -/
import Derived.Test.YtilafcplijgjjaaRows
import Derived.Test.YtilafcplijgjjaaArgs
import Derived.Test.YtilafcplijgjjaaAw
import Derived.WalkKit
import Derived.ProofKit
import Derived.OpenShut
import Derived.SizedLaws
import Derived.Deep.Slices
namespace Go.Proofs.Ytilafcplijgjjaa.TK
open Go.ChangeShapes Go.WideShapes Go.ChangeAt Go.RowKit Go.Deep Go.Proofs.Ytilafcplijgjjaa.AR Go.Proofs.Ytilafcplijgjjaa.TB

/-- a task, with the numbers of its two lists -/
structure Tk where
  p : Int
  c : Int
  sa : Option Addr
  sl : Nat
  sc : Nat
  sz : List Int
  da : Option Addr
  dl : Nat
  dc : Nat
  dz : List Int

/-- as a value -/
def Tk.v (t : Tk) : Value := .agg #[.int .i64 t.p, .int .i64 t.c, .slice t.sa t.sl t.sc, .slice t.da t.dl t.dc]

/-- the j-th of its cells -/
def Tk.cell (t : Tk) : Nat → Value
  | 0 => .int .i64 t.p
  | 1 => .int .i64 t.c
  | 2 => .slice t.sa t.sl t.sc
  | _ => .slice t.da t.dl t.dc

/-- a list of numbers that came in: its numbers, its bounds -/
structure NAt (w : World) (ao : Option Addr) (len : Nat) (zs : List Int) : Prop where
  at' : IntsAt w ao len zs
  by' : len * 8 ≤ 140737488351232

theorem NAt.kept {w wr : World} {ao : Option Addr} {len : Nat} {zs : List Int} (h : NAt w ao len zs) (hb : Kp w wr) : NAt wr ao len zs := by
  refine ⟨⟨h.at'.1, h.at'.2.1, ?_⟩, h.by'⟩
  rcases h.at'.2.2 with h0 | ⟨b, off, e, hlt, hc⟩
  · exact .inl h0
  · exact .inr ⟨b, off, e, Nat.lt_of_lt_of_le hlt hb.size, fun i hi => by rw [hb.cell (by exact hlt)]; exact hc i hi⟩

theorem NAt.one {w : World} {ao : Option Addr} {len : Nat} {zs : List Int} (h : NAt w ao len zs) {k : Nat} (hk : k < len) :
    ∃ b off, ao = some ⟨b, off, none⟩ ∧ b < w.heap.size ∧ w.cell? ⟨b, off + k, none⟩ = some (.int .i64 (zs.getD k 0)) := by
  rcases h.at'.2.2 with h0 | ⟨b, off, e, hlt, hc⟩
  · omega
  · exact ⟨b, off, e, hlt, hc k hk⟩

theorem NAt.none {w : World} {len : Nat} {zs : List Int} (h : NAt w none len zs) : len = 0 := by
  rcases h.at'.2.2 with h0 | ⟨b, off, e, _⟩
  · exact h0
  · cases e

/-- a task's lists lie there -/
structure TAt (w : World) (t : Tk) : Prop where
  s : NAt w t.sa t.sl t.sz
  d : NAt w t.da t.dl t.dz

theorem TAt.kept {w wr : World} {t : Tk} (h : TAt w t) (hb : Kp w wr) : TAt wr t := ⟨h.s.kept hb, h.d.kept hb⟩

/-- a list of tasks -/
structure LAt (w : World) (ao : Option Addr) (len : Nat) (L : List Tk) : Prop where
  ln : L.length = len
  each : ∀ t ∈ L, TAt w t
  row : len = 0 ∨ ∃ b off, ao = some ⟨b, off, none⟩ ∧ b < w.heap.size ∧ ∀ i j t, L[i]? = some t → j < 4 → w.cell? ⟨b, off + i * 4 + j, none⟩ = some (t.cell j)
  by' : len * 64 ≤ 281474976710656

theorem LAt.kept {w wr : World} {ao : Option Addr} {len : Nat} {L : List Tk} (h : LAt w ao len L) (hb : Kp w wr) : LAt wr ao len L := by
  refine ⟨h.ln, fun t ht => (h.each t ht).kept hb, ?_, h.by'⟩
  rcases h.row with h0 | ⟨b, off, e, hlt, hc⟩
  · exact .inl h0
  · exact .inr ⟨b, off, e, Nat.lt_of_lt_of_le hlt hb.size, fun i j t hi hj => by rw [hb.cell (by exact hlt)]; exact hc i j t hi hj⟩

/-- one of them -/
theorem LAt.one {w : World} {ao : Option Addr} {len : Nat} {L : List Tk} (h : LAt w ao len L) {k : Nat} (hk : k < len) :
    ∃ b off t, ao = some ⟨b, off, none⟩ ∧ b < w.heap.size ∧ L[k]? = some t ∧ TAt w t ∧ w.cell? ⟨b, off + k * 4, none⟩ = some (.int .i64 t.p) ∧ w.cell? ⟨b, off + k * 4 + 1, none⟩ = some (.int .i64 t.c) ∧
      w.cell? ⟨b, off + k * 4 + 2, none⟩ = some (.slice t.sa t.sl t.sc) ∧ w.cell? ⟨b, off + k * 4 + 3, none⟩ = some (.slice t.da t.dl t.dc) := by
  rcases h.row with h0 | ⟨b, off, e, hlt, hc⟩
  · omega
  · have hl : k < L.length := by rw [h.ln]; exact hk
    have hg : L[k]? = some L[k] := List.getElem?_eq_getElem hl
    exact ⟨b, off, L[k], e, hlt, hg, h.each _ (List.getElem_mem hl), hc k 0 _ hg (by omega), hc k 1 _ hg (by omega), hc k 2 _ hg (by omega), hc k 3 _ hg (by omega)⟩

/-! ### as arguments -/

theorem cells_i : Try.prog.cellsOf 3 = 1 := by kernel_rfl
theorem cells_is : Try.prog.cellsOf 28 = 1 := by kernel_rfl
theorem cells_tk : Try.prog.cellsOf 39 = 4 := by kernel_rfl
theorem bytes_i : Try.prog.bytesOf 3 = 8 := by kernel_rfl
theorem bytes_tk : Try.prog.bytesOf 39 = 64 := by kernel_rfl

theorem list4 {α : Type} {l : List α} (h : l.length = 4) : ∃ a0 a1 a2 a3, l = [a0, a1, a2, a3] := by
  match l, h with
  | [a0, a1, a2, a3], _ => exact ⟨a0, a1, a2, a3, rfl⟩

theorem array4 {α : Type} {a : Array α} (h : a.size = 4) : ∃ a0 a1 a2 a3, a = #[a0, a1, a2, a3] := by
  obtain ⟨l⟩ := a
  obtain ⟨a0, a1, a2, a3, rfl⟩ := list4 (l := l) h
  exact ⟨a0, a1, a2, a3, rfl⟩

section
variable {H : Type} {enc : TypeId × Value → H} {W : World} {base : Nat} {spare : Nat → Bool} {held : Bool}

theorem open_tnum {n : Nat} {c : Value} {x : DataW H × List MemPlace} (h : DataW.trod enc Try.prog W base spare held n 3 [c] = some x) : ∃ y : Int, c = .int .i64 y := by
  obtain ⟨y, hy, _⟩ := DataW.trod_int Try.underlying3 h
  simp only [List.cons.injEq, and_true] at hy
  exact ⟨y, hy⟩

theorem open_tints {n : Nat} {c : Value} {x : DataW H × List MemPlace} (h : DataW.trod enc Try.prog W base spare held n 28 [c] = some x) (hz : ∀ q ∈ x.1.weights Try.prog 28, q ≤ reachBytes) :
    ∃ ao len cap zs, c = .slice ao len cap ∧ NAt W ao len zs := by
  obtain ⟨ao, len, cap, zs, hcs, hra, _, _, hd⟩ := open_intlist Try.underlying28 Try.underlying3 cells_i h
  simp only [List.cons.injEq, and_true] at hcs
  refine ⟨ao, len, cap, zs, hcs, hra, ?_⟩
  rcases hd with ⟨_, h0⟩ | ⟨elems, sp, hd, hel⟩
  · rw [h0]; omega
  · have := hz ((elems.length + sp.length) * 8) (by rw [hd]; simp [DataW.weights, Try.underlying28, bytes_i])
    simp only [reachBytes] at this
    rw [← hel]
    have : elems.length * 8 ≤ (elems.length + sp.length) * 8 := Nat.mul_le_mul_right _ (Nat.le_add_right _ _)
    omega

/-- the four cells of a task -/
theorem open_tcells {fuel : Nat} {cs : List Value} {x : DataW H × List MemPlace} (hf : DataW.trod enc Try.prog W base spare held fuel 39 cs = some x) (hz : ∀ q ∈ x.1.weights Try.prog 39, q ≤ reachBytes) :
    ∃ t : Tk, cs = [t.cell 0, t.cell 1, t.cell 2, t.cell 3] ∧ TAt W t := by
  obtain ⟨xs, n, _, hx, hlen, hxl, hall⟩ := DataW.trod_struct Try.underlying39 hf
  rw [cells_tk] at hlen
  obtain ⟨c0, c1, c2, c3, rfl⟩ := list4 hlen
  obtain ⟨x0, x1, x2, x3, rfl⟩ := list4 (l := xs) hxl
  have f0 : DataW.trod enc Try.prog W base spare held n 3 [c0] = some x0 := by have h' : DataW.trod enc Try.prog W base spare held n 3 (([c0, c1, c2, c3].drop 0).take (Try.prog.cellsOf 3)) = some x0 := hall 0 _ rfl; rw [cells_i] at h'; exact h'
  have f1 : DataW.trod enc Try.prog W base spare held n 3 [c1] = some x1 := by have h' : DataW.trod enc Try.prog W base spare held n 3 (([c0, c1, c2, c3].drop 1).take (Try.prog.cellsOf 3)) = some x1 := hall 1 _ rfl; rw [cells_i] at h'; exact h'
  have f2 : DataW.trod enc Try.prog W base spare held n 28 [c2] = some x2 := by have h' : DataW.trod enc Try.prog W base spare held n 28 (([c0, c1, c2, c3].drop 2).take (Try.prog.cellsOf 28)) = some x2 := hall 2 _ rfl; rw [cells_is] at h'; exact h'
  have f3 : DataW.trod enc Try.prog W base spare held n 28 [c3] = some x3 := by have h' : DataW.trod enc Try.prog W base spare held n 28 (([c0, c1, c2, c3].drop 3).take (Try.prog.cellsOf 28)) = some x3 := hall 3 _ rfl; rw [cells_is] at h'; exact h'
  have z2 : ∀ q ∈ x2.1.weights Try.prog 28, q ≤ reachBytes := fun q hq => hz q (by rw [hx]; simp [DataW.weights, Try.underlying39, DataW.weightsEach, hq])
  have z3 : ∀ q ∈ x3.1.weights Try.prog 28, q ≤ reachBytes := fun q hq => hz q (by rw [hx]; simp [DataW.weights, Try.underlying39, DataW.weightsEach, hq])
  obtain ⟨y0, rfl⟩ := open_tnum f0
  obtain ⟨y1, rfl⟩ := open_tnum f1
  obtain ⟨sa, sl, sc, sz, rfl, m2⟩ := open_tints f2 z2
  obtain ⟨da, dl, dc, dz, rfl, m3⟩ := open_tints f3 z3
  exact ⟨⟨y0, y1, sa, sl, sc, sz, da, dl, dc, dz⟩, rfl, m2, m3⟩

theorem open_tk {r : Reach} {b0 : Nat} {v : Value} {d : DataW H} {p : List MemPlace} (hv : Value.okWide Try.prog W r b0 39 v) (h : DataW.Trod enc Try.prog W base spare held 39 v d p) (hz : ∀ q ∈ d.weights Try.prog 39, q ≤ reachBytes) :
    ∃ t : Tk, v = t.v ∧ TAt W t := by
  obtain ⟨cs, rfl, hsz⟩ := okWide_struct Try.underlying39 hv
  obtain ⟨c0, c1, c2, c3, rfl⟩ := array4 (hsz.trans cells_tk)
  obtain ⟨fuel, hf⟩ := h
  obtain ⟨t, e, ht⟩ := open_tcells hf hz
  simp only [Value.cells, List.cons.injEq, and_true] at e
  obtain ⟨e0, e1, e2, e3⟩ := e
  subst e0; subst e1; subst e2; subst e3
  exact ⟨t, rfl, ht⟩

theorem weights_all {P : Program} {e : TypeId} : ∀ {ds : List (DataW H)} {d : DataW H}, d ∈ ds → ∀ q ∈ d.weights P e, q ∈ DataW.weightsAll P e ds
  | d0 :: ds, d, hd, q, hq => by
    simp only [DataW.weightsAll, List.mem_append]
    rcases List.mem_cons.1 hd with rfl | h
    · exact .inl hq
    · exact .inr (weights_all h q hq)

theorem open_tks {r : Reach} {b0 : Nat} {v : Value} {d : DataW H} {p : List MemPlace} (hv : Value.okWide Try.prog W r b0 27 v) (h : DataW.Trod enc Try.prog W base spare held 27 v d p) (hz : ∀ q ∈ d.weights Try.prog 27, q ≤ reachBytes) :
    ∃ ao len cap L, v = .slice ao len cap ∧ LAt W ao len L ∧ len * 64 ≤ 140737488351232 := by
  obtain ⟨z, y, x, rfl⟩ := okWide_slice Try.underlying27 hv
  obtain ⟨fuel, hf⟩ := h
  rcases open_slice Try.underlying27 hf with ⟨hcs, hd⟩ | ⟨a, len, cap, m, n, D, Pl, hcs, hb, hl, hm, hmm, hd, hx⟩
  · simp only [Value.cells, List.cons.injEq, and_true] at hcs
    exact ⟨_, _, _, [], hcs, ⟨rfl, fun t ht => by simp at ht, .inl rfl, by omega⟩, by omega⟩
  · simp only [Value.cells, List.cons.injEq, and_true] at hcs
    simp only [Prod.mk.injEq] at hd
    have hlm : len ≤ m := by rw [hmm]; split <;> omega
    have hw : ∀ i, i < len → ∀ q ∈ (D i).weights Try.prog 39, q ≤ reachBytes := by
      intro i hi q hq
      refine hz q ?_
      rw [hd.1]
      simp only [DataW.weights, Try.underlying27, List.mem_cons, List.mem_append]
      exact .inr (.inl (weights_all (List.mem_map.2 ⟨i, by simpa using hi, rfl⟩) q hq))
    have hby : len * 64 ≤ 140737488351232 := by
      have := hz ((len + (m - len)) * 64) (by rw [hd.1]; simp [DataW.weights, Try.underlying27, bytes_tk])
      simp only [reachBytes] at this
      have : len * 64 ≤ (len + (m - len)) * 64 := Nat.mul_le_mul_right _ (Nat.le_add_right _ _)
      omega
    have each : ∀ i, i < len → ∃ t : Tk, TAt W t ∧ ∀ j, j < 4 → W.cell? (a.add (i * 4 + j)) = some (t.cell j) := by
      intro i hi
      obtain ⟨cs', h1, h2⟩ := hx i (by omega)
      rw [cells_tk] at h1
      obtain ⟨_, hlen, hcell⟩ := World.cells?_some h1
      obtain ⟨t, rfl, ht⟩ := open_tcells h2 (hw i hi)
      refine ⟨t, ht, fun j hj => ?_⟩
      have := hcell j hj
      rw [add_add] at this
      rw [this]
      match j, hj with
      | 0, _ => rfl
      | 1, _ => rfl
      | 2, _ => rfl
      | 3, _ => rfl
    haveI : Inhabited Tk := ⟨⟨0, 0, none, 0, 0, [], none, 0, 0, []⟩⟩
    obtain ⟨f, hf'⟩ := choose_lt each
    refine ⟨some a, len, cap, (List.range len).map f, hcs, ⟨by simp, ?_, ?_, by omega⟩, hby⟩
    · intro t ht
      simp only [List.mem_map, List.mem_range] at ht
      obtain ⟨i, hi, rfl⟩ := ht
      exact (hf' i hi).1
    · by_cases hz0 : len = 0
      · exact .inl hz0
      · right
        obtain ⟨b, off, spot⟩ := a
        have hc := (hf' 0 (by omega)).2 0 (by omega)
        have hs : spot = none := by
          have := World.cell?_spot hc
          rw [show ((⟨b, off, spot⟩ : Addr).add (0 * 4 + 0)).spot = (⟨b, off, spot⟩ : Addr).spot from by simp [Addr.add]] at this
          exact this
        subst hs
        refine ⟨b, off, rfl, World.block_lt_of_cell? W _ (by simpa [Addr.add] using hc), fun i j t hi hj => ?_⟩
        have hil : i < len := by
          have := (List.getElem?_eq_some_iff.1 hi).1
          simpa using this
        have ht : t = f i := by simp [hil] at hi; exact hi.symm
        subst ht
        have := (hf' i hil).2 j hj
        rw [add_plain] at this
        rw [show off + i * 4 + j = off + (i * 4 + j) from by omega, this]

end

end Go.Proofs.Ytilafcplijgjjaa.TK
