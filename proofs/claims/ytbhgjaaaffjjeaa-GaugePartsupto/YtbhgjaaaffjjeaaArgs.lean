/- Arguments that are lists of records of whole numbers: what lies where. -/
import Derived.Test.YtbhgjaaaffjjeaaRows
import Derived.WalkKit
import Derived.ProofKit
import Derived.OpenShut
import Derived.SizedLaws
import Derived.Deep.Slices
namespace Go.Proofs.Ytbhgjaaaffjjeaa.AR
open Go.ChangeShapes Go.WideShapes Go.Deep

/-- the bounds of an int -/
def I64 (x : Int) : Prop := -9223372036854775808 ≤ x ∧ x ≤ 9223372036854775807

theorem i64_of_wf {x : Int} (h : (Lit.int .i64 x).wf = true) : I64 x := by
  simp [Lit.wf, IntKind.min, IntKind.max, IntKind.signed, IntKind.bits] at h
  exact ⟨by omega, by omega⟩

/-- len records of k numbers each lie from there on -/
def RecAt (w : World) (k : Nat) (ao : Option Addr) (len : Nat) (rows : List (List Int)) : Prop :=
  rows.length = len ∧ (∀ r ∈ rows, r.length = k ∧ ∀ y ∈ r, I64 y) ∧
    (len = 0 ∨ ∃ b off, ao = some ⟨b, off, none⟩ ∧ b < w.heap.size ∧ ∀ i j, i < len → j < k → w.cell? ⟨b, off + i * k + j, none⟩ = some (.int .i64 ((rows.getD i []).getD j 0)))

/-- the number there -/
def intAt : Option Value → Int
  | some (.int _ y) => y
  | _ => 0

section
variable {H : Type} {enc : TypeId × Value → H} {P : Program} {w : World} {base : Nat} {spare : Nat → Bool} {held : Bool}

theorem rec_ints {e : TypeId} {fs : Array Field} {cs : List Value} {x : DataW H × List MemPlace} {n : Nat} (he : P.underlying e = some (.struct fs))
    (hk : ∀ (j : Nat) (f : Field), fs[j]? = some f → f.offset = j ∧ P.cellsOf f.type = 1 ∧ P.underlying f.type = some (.int .i64)) (hce : P.cellsOf e = fs.size)
    (h : DataW.trod enc P w base spare held n e cs = some x) : ∃ xs : List Int, xs.length = fs.size ∧ cs = xs.map (Value.int .i64) ∧ ∀ y ∈ xs, I64 y := by
  obtain ⟨xs, m, _, _, hlen, hxl, hf⟩ := DataW.trod_struct he h
  have each : ∀ j, j < fs.size → ∃ y : Int, cs[j]? = some (.int .i64 y) ∧ I64 y := by
    intro j hj
    have hg : fs[j]? = some fs[j] := Array.getElem?_eq_getElem hj
    obtain ⟨h1, h2, h3⟩ := hk j fs[j] hg
    have := hf j fs[j] hg
    rw [h1, h2] at this
    obtain ⟨y, hy⟩ : ∃ y, xs[j]? = some y := ⟨xs[j], List.getElem?_eq_getElem (by omega)⟩
    rw [hy] at this
    obtain ⟨v, hv, _, hw⟩ := DataW.trod_int h3 this
    refine ⟨v, ?_, i64_of_wf hw⟩
    have hjl : j < cs.length := by omega
    rw [List.drop_eq_getElem_cons hjl, List.take_succ_cons, List.take_zero, List.cons.injEq] at hv
    rw [List.getElem?_eq_getElem hjl, hv.1]
  refine ⟨(List.range fs.size).map fun j => intAt cs[j]?, by simp, ?_, ?_⟩
  · apply List.ext_getElem?
    intro j
    by_cases hj : j < fs.size
    · obtain ⟨y, hy, _⟩ := each j hj
      simp [hj, hy, intAt]
    · rw [List.getElem?_eq_none (by omega), List.getElem?_eq_none (by simp; omega)]
  · intro y hy
    simp only [List.mem_map, List.mem_range] at hy
    obtain ⟨j, hj, rfl⟩ := hy
    obtain ⟨y, hy, hw⟩ := each j hj
    rw [hy]; exact hw

theorem open_recs {t e : TypeId} {fs : Array Field} {fuel : Nat} {cs : List Value} {x : DataW H × List MemPlace} (ht : P.underlying t = some (.slice e)) (he : P.underlying e = some (.struct fs))
    (hk : ∀ (j : Nat) (f : Field), fs[j]? = some f → f.offset = j ∧ P.cellsOf f.type = 1 ∧ P.underlying f.type = some (.int .i64)) (hce : P.cellsOf e = fs.size) (h0 : 0 < fs.size)
    (h : DataW.trod enc P w base spare held fuel t cs = some x) :
    ∃ ao len cap rows, cs = [.slice ao len cap] ∧ RecAt w fs.size ao len rows ∧ len ≤ cap ∧ cap ≤ maxLen ∧ ((x.1 = .nil ∧ len = 0) ∨ ∃ elems sp, x.1 = .slice elems sp ∧ elems.length = len) := by
  rcases open_slice ht h with ⟨rfl, rfl⟩ | ⟨a, len, cap, m, n, D, Pl, rfl, hb, hl, hm, hmm, rfl, hx⟩
  · exact ⟨none, 0, 0, [], rfl, ⟨rfl, fun r hr => by simp at hr, .inl rfl⟩, Nat.le_refl _, Nat.zero_le _, .inl ⟨rfl, rfl⟩⟩
  · have hlm : len ≤ m := by rw [hmm]; split <;> omega
    have each : ∀ i, i < len → ∃ xs : List Int, xs.length = fs.size ∧ (∀ y ∈ xs, I64 y) ∧ ∀ j, j < fs.size → w.cell? (a.add (i * fs.size + j)) = some (.int .i64 (xs.getD j 0)) := by
      intro i hi
      obtain ⟨cs', h1, h2⟩ := hx i (by omega)
      rw [hce] at h1
      obtain ⟨_, hlen, hcell⟩ := World.cells?_some h1
      obtain ⟨xs, g1, g2, g3⟩ := rec_ints he hk hce h2
      refine ⟨xs, g1, g3, fun j hj => ?_⟩
      have := hcell j hj
      rw [add_add] at this
      rw [this, g2]
      simp [g1, hj]
    obtain ⟨f, hf⟩ := choose_lt each
    refine ⟨some a, len, cap, (List.range len).map f, rfl, ⟨by simp, ?_, ?_⟩, hl, hm, .inr ⟨_, _, rfl, by simp⟩⟩
    · intro r hr
      simp only [List.mem_map, List.mem_range] at hr
      obtain ⟨i, hi, rfl⟩ := hr
      exact ⟨(hf i hi).1, (hf i hi).2.1⟩
    · by_cases hz : len = 0
      · exact .inl hz
      · right
        obtain ⟨b, off, spot⟩ := a
        have hc := (hf 0 (by omega)).2.2 0 h0
        have hs : spot = none := by
          have := World.cell?_spot hc
          rw [show ((⟨b, off, spot⟩ : Addr).add (0 * fs.size + 0)).spot = (⟨b, off, spot⟩ : Addr).spot from by simp [Addr.add]] at this
          exact this
        subst hs
        refine ⟨b, off, rfl, World.block_lt_of_cell? w _ (by simpa [Addr.add] using hc), fun i j hi hj => ?_⟩
        have := (hf i hi).2.2 j hj
        rw [add_plain] at this
        rw [show off + i * fs.size + j = off + (i * fs.size + j) from by omega, this]
        simp [hi]

/-- len numbers lie from there on -/
def IntsAt (w : World) (ao : Option Addr) (len : Nat) (zs : List Int) : Prop :=
  zs.length = len ∧ (∀ z ∈ zs, I64 z) ∧
    (len = 0 ∨ ∃ b off, ao = some ⟨b, off, none⟩ ∧ b < w.heap.size ∧ ∀ i, i < len → w.cell? ⟨b, off + i, none⟩ = some (.int .i64 (zs.getD i 0)))

theorem open_intlist {t e : TypeId} {fuel : Nat} {cs : List Value} {x : DataW H × List MemPlace} (ht : P.underlying t = some (.slice e)) (he : P.underlying e = some (.int .i64)) (hce : P.cellsOf e = 1)
    (h : DataW.trod enc P w base spare held fuel t cs = some x) :
    ∃ ao len cap zs, cs = [.slice ao len cap] ∧ IntsAt w ao len zs ∧ len ≤ cap ∧ cap ≤ maxLen ∧ ((x.1 = .nil ∧ len = 0) ∨ ∃ elems sp, x.1 = .slice elems sp ∧ elems.length = len) := by
  rcases open_slice ht h with ⟨rfl, rfl⟩ | ⟨a, len, cap, m, n, D, Pl, rfl, hb, hl, hm, hmm, rfl, hx⟩
  · exact ⟨none, 0, 0, [], rfl, ⟨rfl, fun r hr => by simp at hr, .inl rfl⟩, Nat.le_refl _, Nat.zero_le _, .inl ⟨rfl, rfl⟩⟩
  · have hlm : len ≤ m := by rw [hmm]; split <;> omega
    have each : ∀ i, i < len → ∃ y : Int, I64 y ∧ w.cell? (a.add i) = some (.int .i64 y) := by
      intro i hi
      obtain ⟨cs', h1, h2⟩ := hx i (by omega)
      rw [hce] at h1
      obtain ⟨_, hlen, hcell⟩ := World.cells?_some h1
      obtain ⟨y, g1, _, g3⟩ := DataW.trod_int he h2
      refine ⟨y, i64_of_wf g3, ?_⟩
      have := hcell 0 (by omega)
      rw [add_add, g1] at this
      simpa using this
    obtain ⟨f, hf⟩ := choose_lt each
    refine ⟨some a, len, cap, (List.range len).map f, rfl, ⟨by simp, ?_, ?_⟩, hl, hm, .inr ⟨_, _, rfl, by simp⟩⟩
    · intro r hr
      simp only [List.mem_map, List.mem_range] at hr
      obtain ⟨i, hi, rfl⟩ := hr
      exact (hf i hi).1
    · by_cases hz : len = 0
      · exact .inl hz
      · right
        obtain ⟨b, off, spot⟩ := a
        have hc := (hf 0 (by omega)).2
        have hs : spot = none := by
          have := World.cell?_spot hc
          rw [show ((⟨b, off, spot⟩ : Addr).add 0).spot = (⟨b, off, spot⟩ : Addr).spot from by simp [Addr.add]] at this
          exact this
        subst hs
        refine ⟨b, off, rfl, World.block_lt_of_cell? w _ (by simpa [Addr.add] using hc), fun i hi => ?_⟩
        have := (hf i hi).2
        rw [add_plain] at this
        rw [this]
        simp [hi]

end

end Go.Proofs.Ytbhgjaaaffjjeaa.AR
