/- How many cycles, and how many switches, any intervals have: for every list of them. -/
import Derived.Test.YtbhgjaaaffjjeaaRows
import Derived.WalkKit
import Derived.ProofKit
import Derived.OpenShut
import Derived.ShutString
import Derived.ChangeOld
import Derived.Below
import Derived.SizedLaws
import Derived.Test.YtbhgjaaaffjjeaaArgs
import Derived.Test.YtbhgjaaaffjjeaaGagCountsW
namespace Go.Proofs.Ytbhgjaaaffjjeaa.gaugeCounts
open Go.ChangeShapes Go.WideShapes Go.ChangeAt Go.RowKit Go.Proofs.Ytbhgjaaaffjjeaa.AR
set_option linter.unusedVariables false

theorem own : ownKnob Try.prog.godebug = none := by kernel_rfl
theorem laidOut : laidOutB Try.prog = true := by kernel_rfl

theorem bytes34 : Try.prog.bytesOf 34 = 48 := by kernel_rfl
theorem cells34 : Try.prog.cellsOf 34 = 6 := by kernel_rfl

set_option maxRecDepth 100000 in
theorem lifted (os : Os) (started : os.Started) (H : Type) (enc : TypeId × Value → H) :
    ReturnsInHanded {} Try.checked os 4 .any (Rows.gaugeCountsSpec.pre6 enc Try.prog Try.f4 Rows.gaugeCountsRow.domain false) (Rows.gaugeCountsSpec.post enc Try.prog Try.f4 false true false false) := by
  refine returnsInHanded_of_change_sized (C := Try.checked) own started (by kernel_rfl) Try.func4
    (ChangeSpec.witness6 (enc := enc) (C := Try.checked) false ⟨#[], #[.slice none 0 0], []⟩ 8 (by kernel_rfl) (by kernel_rfl) (by kernel_rfl) (by kernel_rfl)) ?_
  intro W base args ds gs before hval0 hW hcnd hsz0 _
  have hval : ∀ (j : Nat) t v, Try.f4.params[j]? = some t → args[j]? = some v → Value.okWide Try.prog W .any base t v := hval0
  have hsz : (DataW.weightsEach Try.prog (Try.f4.params.toList ++ Rows.gaugeCountsSpec.plain.varTypes Try.prog) (ds ++ gs)).all (· ≤ reachBytes) = true := hsz0
  have hW' := hW
  obtain ⟨p, q, hA0, hV, rfl, hfz, hnd⟩ := hW
  have hA : DataW.TrodAll enc Try.prog W 0 (fun _ => true) true Try.f4.params.toList args.toList ds p := hA0
  rw [Try.params4] at hA hval hsz
  obtain ⟨v0, vs0, d0, ds0, p0, q0, hargs, rfl, rfl, h0, r0⟩ := trodAll_cons hA
  obtain ⟨rfl, rfl, rfl⟩ := trodAll_nil r0
  obtain rfl : args = #[v0] := by cases args; simp_all
  obtain ⟨rfl, rfl⟩ := trodVars_none hV
  have k0 := h0
  have lt0 : ∀ x ∈ p0, x.block < W.heap.size := by obtain ⟨m, hm⟩ := k0; exact DataW.trod_lt m _ _ _ hm
  obtain ⟨ao0, len0, cap0, rows0, e0, ra0, lb0⟩ : ∃ ao len cap rows, v0 = .slice ao len cap ∧ RecAt W 6 ao len rows ∧ len * 48 ≤ 140737488351232 := by
    obtain ⟨z0, y0, x0, q0⟩ := okWide_slice Try.underlying32 (hval 0 32 v0 rfl rfl)
    obtain ⟨fuel, hf⟩ := h0
    obtain ⟨ao, len, cap, rows, hcs, hra, _, _, hd⟩ := open_recs Try.underlying32 Try.underlying34 (by intro j f hj; match j, hj with | 0, hj => simp at hj; subst hj; exact ⟨rfl, by kernel_rfl, Try.underlying3⟩ | 1, hj => simp at hj; subst hj; exact ⟨rfl, by kernel_rfl, Try.underlying3⟩ | 2, hj => simp at hj; subst hj; exact ⟨rfl, by kernel_rfl, Try.underlying3⟩ | 3, hj => simp at hj; subst hj; exact ⟨rfl, by kernel_rfl, Try.underlying3⟩ | 4, hj => simp at hj; subst hj; exact ⟨rfl, by kernel_rfl, Try.underlying3⟩ | 5, hj => simp at hj; subst hj; exact ⟨rfl, by kernel_rfl, Try.underlying3⟩ | j + 6, hj => simp at hj) cells34 (by decide) hf
    rw [q0] at hcs
    simp only [Value.cells, List.cons.injEq, and_true] at hcs
    refine ⟨ao, len, cap, rows, by rw [q0]; exact hcs, hra, ?_⟩
    rcases hd with ⟨_, hz⟩ | ⟨elems, sp, hd, hel⟩
    · rw [hz]; omega
    · simp only at hd
      have := sized_slice hsz (j := 0) (t := 32) (e := 34) (elems := elems) (spare := sp) rfl (by rw [← hd]; rfl) Try.underlying32
      rw [bytes34] at this
      simp only [reachBytes] at this
      rw [← hel]
      have : elems.length * 48 ≤ (elems.length + sp.length) * 48 := Nat.mul_le_mul_right _ (Nat.le_add_right _ _)
      omega
  subst e0
  clear hA0 hval0 hsz0
  refine (GG.gaugeCounts_walk ao0 len0 cap0 rows0 W ra0 lb0).mono fun e W' ⟨he, bel⟩ => ?_
  subst he
  exact ⟨_, rfl, _, _, _, [], _, [], hW', trodAll_mk1 (shut_bool Try.underlying4 _), (trodAll_cons_mk (Below.trod laidOut (by kernel_rfl) (of_decide_eq_true (by kernel_rfl)) k0 bel lt0) trodAll_mk0), rfl, bel.frame _, fun h => by cases h⟩

theorem over : Rows.gaugeCountsRow.holds Try.pinned (OpenSpec.ofChange Rows.gaugeCountsSpec) :=
  OpenClaim.holds_of_wide 4 Try.f4 rfl rfl rfl rfl rfl rfl rfl ⟨rfl, rfl, rfl, rfl, rfl⟩ rfl rfl rfl rfl rfl (by kernel_rfl) Try.func4 (by kernel_rfl)
    (of_decide_eq_true (by kernel_rfl)) (by unfold Func.isWrapper; first | (rw [if_pos (by decide +kernel)]; kernel_rfl) | (rw [if_neg (by decide +kernel)]; exact ⟨rfl, rfl⟩))
    (fun os started H enc _ => lifted os started H enc)

/-- the statement -/
theorem proved : Rows.GaugeCountsSaid := over
#print axioms proved
end Go.Proofs.Ytbhgjaaaffjjeaa.gaugeCounts
