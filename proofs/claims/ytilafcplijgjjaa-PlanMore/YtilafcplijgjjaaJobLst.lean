/- Lists of jobs that came in: what lies where, and that it stays. -/
import Derived.Test.YtilafcplijgjjaaJobAt
import Derived.SizedLaws
import Derived.Deep.Slices
namespace Go.Proofs.Ytilafcplijgjjaa.JB
open Go.ChangeShapes Go.WideShapes Go.ChangeAt Go.RowKit Go.Deep Go.Proofs.Ytilafcplijgjjaa.AR Go.Proofs.Ytilafcplijgjjaa.TB

/-- the j-th of a job's cells -/
def Jb.cell (j : Jb) : Nat → Value
  | 0 => .int .i64 j.t
  | 1 => .int .i64 j.r
  | 2 => .int .i64 j.d
  | 3 => .int .i64 j.l
  | 4 => .int .i64 j.x
  | _ => .bool j.s

/-- its numbers are ints -/
structure JI (j : Jb) : Prop where
  t : I64 j.t
  r : I64 j.r
  d : I64 j.d
  l : I64 j.l
  x : I64 j.x

/-- a list of jobs -/
structure JsAt (w : World) (ao : Option Addr) (len : Nat) (L : List Jb) : Prop where
  ln : L.length = len
  wf : ∀ j ∈ L, JI j
  row : len = 0 ∨ ∃ b off, ao = some ⟨b, off, none⟩ ∧ b < w.heap.size ∧ ∀ i q j, L[i]? = some j → q < 6 → w.cell? ⟨b, off + i * 6 + q, none⟩ = some (j.cell q)
  by' : len * 48 ≤ 140737488351232

theorem JsAt.kept {w wr : World} {ao : Option Addr} {len : Nat} {L : List Jb} (h : JsAt w ao len L) (hb : Kp w wr) : JsAt wr ao len L := by
  refine ⟨h.ln, h.wf, ?_, h.by'⟩
  rcases h.row with h0 | ⟨b, off, e, hlt, hc⟩
  · exact .inl h0
  · exact .inr ⟨b, off, e, Nat.lt_of_lt_of_le hlt hb.size, fun i q j hi hq => by rw [hb.cell (by exact hlt)]; exact hc i q j hi hq⟩

/-- one of them -/
theorem JsAt.one {w : World} {ao : Option Addr} {len : Nat} {L : List Jb} (h : JsAt w ao len L) {k : Nat} (hk : k < len) :
    ∃ b off j, ao = some ⟨b, off, none⟩ ∧ b < w.heap.size ∧ L[k]? = some j ∧ JI j ∧ w.cell? ⟨b, off + k * 6, none⟩ = some (.int .i64 j.t) ∧ w.cell? ⟨b, off + k * 6 + 1, none⟩ = some (.int .i64 j.r) ∧
      w.cell? ⟨b, off + k * 6 + 2, none⟩ = some (.int .i64 j.d) ∧ w.cell? ⟨b, off + k * 6 + 3, none⟩ = some (.int .i64 j.l) ∧ w.cell? ⟨b, off + k * 6 + 4, none⟩ = some (.int .i64 j.x) ∧ w.cell? ⟨b, off + k * 6 + 5, none⟩ = some (.bool j.s) := by
  rcases h.row with h0 | ⟨b, off, e, hlt, hc⟩
  · omega
  · have hl : k < L.length := by rw [h.ln]; exact hk
    have hg : L[k]? = some L[k] := List.getElem?_eq_getElem hl
    exact ⟨b, off, L[k], e, hlt, hg, h.wf _ (List.getElem_mem hl), hc k 0 _ hg (by omega), hc k 1 _ hg (by omega), hc k 2 _ hg (by omega), hc k 3 _ hg (by omega), hc k 4 _ hg (by omega), hc k 5 _ hg (by omega)⟩

theorem bytes_jb : Try.prog.bytesOf 41 = 48 := by kernel_rfl

section
variable {H : Type} {enc : TypeId × Value → H} {W : World} {base : Nat} {spare : Nat → Bool} {held : Bool}

theorem open_jwnum {n : Nat} {c : Value} {x : DataW H × List MemPlace} (h : DataW.trod enc Try.prog W base spare held n 3 [c] = some x) : ∃ y : Int, c = .int .i64 y ∧ I64 y := by
  obtain ⟨y, hy, _, hw⟩ := DataW.trod_int Try.underlying3 h
  simp only [List.cons.injEq, and_true] at hy
  exact ⟨y, hy, i64_of_wf hw⟩

/-- the six cells of a job -/
theorem open_jcells {fuel : Nat} {cs : List Value} {x : DataW H × List MemPlace} (hf : DataW.trod enc Try.prog W base spare held fuel 41 cs = some x) :
    ∃ j : Jb, cs = [.int .i64 j.t, .int .i64 j.r, .int .i64 j.d, .int .i64 j.l, .int .i64 j.x, .bool j.s] ∧ JI j := by
  obtain ⟨xs, n, _, _, hlen, hxl, hall⟩ := DataW.trod_struct Try.underlying41 hf
  rw [cells_jb] at hlen
  obtain ⟨c0, c1, c2, c3, c4, c5, rfl⟩ := list6 hlen
  obtain ⟨x0, x1, x2, x3, x4, x5, rfl⟩ := list6 (l := xs) hxl
  have f0 : DataW.trod enc Try.prog W base spare held n 3 [c0] = some x0 := by have h' : DataW.trod enc Try.prog W base spare held n 3 (([c0, c1, c2, c3, c4, c5].drop 0).take (Try.prog.cellsOf 3)) = some x0 := hall 0 _ rfl; rw [cells_jint] at h'; exact h'
  have f1 : DataW.trod enc Try.prog W base spare held n 3 [c1] = some x1 := by have h' : DataW.trod enc Try.prog W base spare held n 3 (([c0, c1, c2, c3, c4, c5].drop 1).take (Try.prog.cellsOf 3)) = some x1 := hall 1 _ rfl; rw [cells_jint] at h'; exact h'
  have f2 : DataW.trod enc Try.prog W base spare held n 3 [c2] = some x2 := by have h' : DataW.trod enc Try.prog W base spare held n 3 (([c0, c1, c2, c3, c4, c5].drop 2).take (Try.prog.cellsOf 3)) = some x2 := hall 2 _ rfl; rw [cells_jint] at h'; exact h'
  have f3 : DataW.trod enc Try.prog W base spare held n 3 [c3] = some x3 := by have h' : DataW.trod enc Try.prog W base spare held n 3 (([c0, c1, c2, c3, c4, c5].drop 3).take (Try.prog.cellsOf 3)) = some x3 := hall 3 _ rfl; rw [cells_jint] at h'; exact h'
  have f4 : DataW.trod enc Try.prog W base spare held n 3 [c4] = some x4 := by have h' : DataW.trod enc Try.prog W base spare held n 3 (([c0, c1, c2, c3, c4, c5].drop 4).take (Try.prog.cellsOf 3)) = some x4 := hall 4 _ rfl; rw [cells_jint] at h'; exact h'
  have f5 : DataW.trod enc Try.prog W base spare held n 4 [c5] = some x5 := by have h' : DataW.trod enc Try.prog W base spare held n 4 (([c0, c1, c2, c3, c4, c5].drop 5).take (Try.prog.cellsOf 4)) = some x5 := hall 5 _ rfl; rw [cells_jbool] at h'; exact h'
  obtain ⟨y0, rfl, w0⟩ := open_jwnum f0
  obtain ⟨y1, rfl, w1⟩ := open_jwnum f1
  obtain ⟨y2, rfl, w2⟩ := open_jwnum f2
  obtain ⟨y3, rfl, w3⟩ := open_jwnum f3
  obtain ⟨y4, rfl, w4⟩ := open_jwnum f4
  obtain ⟨y5, rfl⟩ := open_jbool f5
  exact ⟨⟨y0, y1, y2, y3, y4, y5⟩, rfl, w0, w1, w2, w3, w4⟩

/-- a list of jobs as an argument -/
theorem open_jbs {r : Reach} {b0 : Nat} {v : Value} {d : DataW H} {p : List MemPlace} (hv : Value.okWide Try.prog W r b0 29 v) (h : DataW.Trod enc Try.prog W base spare held 29 v d p) (hz : ∀ q ∈ d.weights Try.prog 29, q ≤ reachBytes) :
    ∃ ao len cap L, v = .slice ao len cap ∧ JsAt W ao len L := by
  obtain ⟨z, y, x, rfl⟩ := okWide_slice Try.underlying29 hv
  obtain ⟨fuel, hf⟩ := h
  rcases open_slice Try.underlying29 hf with ⟨hcs, hd⟩ | ⟨a, len, cap, m, n, D, Pl, hcs, hb, hl, hm, hmm, hd, hx⟩
  · simp only [Value.cells, List.cons.injEq, and_true] at hcs
    exact ⟨_, _, _, [], hcs, ⟨rfl, fun t ht => by simp at ht, .inl rfl, by omega⟩⟩
  · simp only [Value.cells, List.cons.injEq, and_true] at hcs
    simp only [Prod.mk.injEq] at hd
    have hlm : len ≤ m := by rw [hmm]; split <;> omega
    have hby : len * 48 ≤ 140737488351232 := by
      have := hz ((len + (m - len)) * 48) (by rw [hd.1]; simp [DataW.weights, Try.underlying29, bytes_jb])
      simp only [reachBytes] at this
      have : len * 48 ≤ (len + (m - len)) * 48 := Nat.mul_le_mul_right _ (Nat.le_add_right _ _)
      omega
    have each : ∀ i, i < len → ∃ j : Jb, JI j ∧ ∀ q, q < 6 → W.cell? (a.add (i * 6 + q)) = some (j.cell q) := by
      intro i hi
      obtain ⟨cs', h1, h2⟩ := hx i (by omega)
      rw [cells_jb] at h1
      obtain ⟨_, hlen, hcell⟩ := World.cells?_some h1
      obtain ⟨j, rfl, hj⟩ := open_jcells h2
      refine ⟨j, hj, fun q hq => ?_⟩
      have := hcell q hq
      rw [add_add] at this
      rw [this]
      match q, hq with
      | 0, _ => rfl
      | 1, _ => rfl
      | 2, _ => rfl
      | 3, _ => rfl
      | 4, _ => rfl
      | 5, _ => rfl
    haveI : Inhabited Jb := ⟨⟨0, 0, 0, 0, 0, false⟩⟩
    obtain ⟨f, hf'⟩ := choose_lt each
    refine ⟨some a, len, cap, (List.range len).map f, hcs, ⟨by simp, ?_, ?_, hby⟩⟩
    · intro t ht
      simp only [List.mem_map, List.mem_range] at ht
      obtain ⟨i, hi, rfl⟩ := ht
      exact (hf' i hi).1
    · by_cases hz0 : len = 0
      · exact .inl hz0
      · right
        obtain ⟨b, off, spot⟩ := a
        have hc := (hf' 0 (by omega)).2 0 (by omega)
        have hs : spot = none := by
          have := World.cell?_spot hc
          rw [show ((⟨b, off, spot⟩ : Addr).add (0 * 6 + 0)).spot = (⟨b, off, spot⟩ : Addr).spot from by simp [Addr.add]] at this
          exact this
        subst hs
        refine ⟨b, off, rfl, World.block_lt_of_cell? W _ (by simpa [Addr.add] using hc), fun i q j hi hq => ?_⟩
        have hil : i < len := by
          have := (List.getElem?_eq_some_iff.1 hi).1
          simpa using this
        have ht : j = f i := by simp [hil] at hi; exact hi.symm
        have := (hf' i hil).2 q hq
        rw [add_plain] at this
        rw [show off + i * 6 + q = off + (i * 6 + q) from by omega, this, ht]

end

end Go.Proofs.Ytilafcplijgjjaa.JB
