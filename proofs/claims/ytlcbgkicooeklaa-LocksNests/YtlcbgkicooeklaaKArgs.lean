/- A list of small numbers as an argument: what lies where. -/
import Derived.Test.YtlcbgkicooeklaaArgs
import Derived.Test.YtlcbgkicooeklaaAw
namespace Go.Proofs.Ytlcbgkicooeklaa.AR
open Go.ChangeShapes Go.WideShapes Go.ChangeAt Go.RowKit Go.Deep Go.Proofs.Ytlcbgkicooeklaa.TB

/-- len numbers of a kind lie from there on -/
structure KIntsAt (k : IntKind) (w : World) (ao : Option Addr) (len : Nat) (zs : List Int) : Prop where
  ln : zs.length = len
  ok : ∀ z ∈ zs, (Lit.int k z).wf = true
  lie : len = 0 ∨ ∃ b off, ao = some ⟨b, off, none⟩ ∧ b < w.heap.size ∧ ∀ i, i < len → w.cell? ⟨b, off + i, none⟩ = some (.int k (zs.getD i 0))
  by' : len ≤ 9223372036854775807

theorem KIntsAt.kept {k : IntKind} {w wr : World} {ao : Option Addr} {len : Nat} {zs : List Int} (h : KIntsAt k w ao len zs) (hb : Kp w wr) : KIntsAt k wr ao len zs := by
  refine ⟨h.ln, h.ok, ?_, h.by'⟩
  rcases h.lie with h0 | ⟨b, off, e, hlt, hc⟩
  · exact .inl h0
  · exact .inr ⟨b, off, e, Nat.lt_of_lt_of_le hlt hb.size, fun i hi => by rw [hb.cell (by exact hlt)]; exact hc i hi⟩

theorem KIntsAt.one {k : IntKind} {w : World} {ao : Option Addr} {len : Nat} {zs : List Int} (h : KIntsAt k w ao len zs) {i : Nat} (hi : i < len) :
    ∃ b off, ao = some ⟨b, off, none⟩ ∧ b < w.heap.size ∧ w.cell? ⟨b, off + i, none⟩ = some (.int k (zs.getD i 0)) ∧ (Lit.int k (zs.getD i 0)).wf = true := by
  rcases h.lie with h0 | ⟨b, off, e, hlt, hc⟩
  · omega
  · refine ⟨b, off, e, hlt, hc i hi, ?_⟩
    have hl : i < zs.length := by rw [h.ln]; exact hi
    have := h.ok zs[i] (List.getElem_mem hl)
    simpa [List.getD_eq_getElem?_getD, List.getElem?_eq_getElem hl] using this

section
variable {H : Type} {enc : TypeId × Value → H} {P : Program} {w : World} {base : Nat} {spare : Nat → Bool} {held : Bool}

theorem open_klist {k : IntKind} {t e : TypeId} {fuel : Nat} {cs : List Value} {x : DataW H × List MemPlace} (ht : P.underlying t = some (.slice e)) (he : P.underlying e = some (.int k)) (hce : P.cellsOf e = 1)
    (h : DataW.trod enc P w base spare held fuel t cs = some x) :
    ∃ ao len cap zs, cs = [.slice ao len cap] ∧ KIntsAt k w ao len zs := by
  rcases open_slice ht h with ⟨rfl, rfl⟩ | ⟨a, len, cap, m, n, D, Pl, rfl, hb, hl, hm, hmm, rfl, hx⟩
  · exact ⟨none, 0, 0, [], rfl, ⟨rfl, fun r hr => by simp at hr, .inl rfl, by omega⟩⟩
  · have hlm : len ≤ m := by rw [hmm]; split <;> omega
    have each : ∀ i, i < len → ∃ y : Int, (Lit.int k y).wf = true ∧ w.cell? (a.add i) = some (.int k y) := by
      intro i hi
      obtain ⟨cs', h1, h2⟩ := hx i (by omega)
      rw [hce] at h1
      obtain ⟨_, hlen, hcell⟩ := World.cells?_some h1
      obtain ⟨y, g1, _, g3⟩ := DataW.trod_int he h2
      refine ⟨y, g3, ?_⟩
      have := hcell 0 (by omega)
      rw [add_add, g1] at this
      simpa using this
    obtain ⟨f, hf⟩ := choose_lt each
    refine ⟨some a, len, cap, (List.range len).map f, rfl, ⟨by simp, ?_, ?_, by unfold maxLen at hm; omega⟩⟩
    · intro r hr
      simp only [List.mem_map, List.mem_range] at hr
      obtain ⟨i, hi, rfl⟩ := hr
      exact (hf i hi).1
    · by_cases hz : len = 0
      · exact .inl hz
      · right
        obtain ⟨b, off, spot⟩ := a
        have hc := (hf 0 (by omega)).2
        have hs : spot = none := by
          have := World.cell?_spot hc
          rw [show ((⟨b, off, spot⟩ : Addr).add 0).spot = (⟨b, off, spot⟩ : Addr).spot from by simp [Addr.add]] at this
          exact this
        subst hs
        refine ⟨b, off, rfl, World.block_lt_of_cell? w _ (by simpa [Addr.add] using hc), fun i hi => ?_⟩
        have := (hf i hi).2
        rw [add_plain] at this
        rw [this]
        simp [hi]

end

section
variable {H : Type} {enc : TypeId × Value → H} {W : World} {base : Nat} {spare : Nat → Bool} {held : Bool}

theorem cells_u8 : Try.prog.cellsOf 5 = 1 := by kernel_rfl

theorem open_u8s {r : Reach} {b0 : Nat} {v : Value} {d : DataW H} {p : List MemPlace} (hv : Value.okWide Try.prog W r b0 49 v) (h : DataW.Trod enc Try.prog W base spare held 49 v d p) :
    ∃ ao len cap zs, v = .slice ao len cap ∧ KIntsAt .u8 W ao len zs := by
  obtain ⟨z, y, x, rfl⟩ := okWide_slice Try.underlying49 hv
  obtain ⟨fuel, hf⟩ := h
  obtain ⟨ao, len, cap, zs, hcs, hk⟩ := open_klist Try.underlying49 Try.underlying5 cells_u8 hf
  simp only [Value.cells, List.cons.injEq, and_true] at hcs
  exact ⟨ao, len, cap, zs, hcs, hk⟩

end

end Go.Proofs.Ytlcbgkicooeklaa.AR
