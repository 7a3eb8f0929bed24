/- Of two lists of intervals, one behind the other, there are the cycles and the switches that there are of both: for all lists, together of bulk at most 2^20. -/
import Derived.Test.YtbhgjaaaffjjeaaRows
import Derived.WalkKit
import Derived.ProofKit
import Derived.OpenShut
import Derived.ShutString
import Derived.ChangeOld
import Derived.Below
import Derived.SizedLaws
import Derived.Deep.CondSized
import Derived.Test.YtbhgjaaaffjjeaaArgs
import Derived.Test.YtbhgjaaaffjjeaaBulk
import Derived.Test.YtbhgjaaaffjjeaaGagPartsW
namespace Go.Proofs.Ytbhgjaaaffjjeaa.gaugeParts
open Go.ChangeShapes Go.WideShapes Go.ChangeAt Go.RowKit Go.Proofs.Ytbhgjaaaffjjeaa.AR
set_option linter.unusedVariables false

theorem own : ownKnob Try.prog.godebug = none := by kernel_rfl
theorem laidOut : laidOutB Try.prog = true := by kernel_rfl

theorem bytes34 : Try.prog.bytesOf 34 = 48 := by kernel_rfl
theorem cells34 : Try.prog.cellsOf 34 = 6 := by kernel_rfl

set_option maxRecDepth 100000 in
theorem lifted (os : Os) (started : os.Started) (H : Type) (enc : TypeId × Value → H) (F : Stop.Interp) :
    ReturnsInHanded {} Try.checked os 6 .any ((Rows.OpenSpec.upto Rows.gaugePartsSpec).pre6 enc Try.prog Try.f6 Rows.gaugePartsUptoRow.domain false) (((Rows.OpenSpec.upto Rows.gaugePartsSpec).at F).post enc Try.prog Try.f6 false true false false) := by
  refine returnsInHanded_of_cond_sized (C := Try.checked) (s := Rows.OpenSpec.upto Rows.gaugePartsSpec) (k := Rows.uptoSmall) rfl own started (by kernel_rfl) Try.func6
    (OpenSpec.witness (enc := enc) (C := Try.checked) (s := Rows.OpenSpec.upto Rows.gaugePartsSpec) (k := Rows.uptoSmall) rfl false ⟨#[], #[.slice none 0 0, .slice none 0 0], []⟩ 8 (by kernel_rfl) (by kernel_rfl) (by kernel_rfl)
      (x := ([.nil, .nil], [], [])) (by kernel_rfl) rfl (by kernel_rfl)) ?_
  intro W base args ds gs before hval0 hW hcnd hk hsz0 _
  have hval : ∀ (j : Nat) t v, Try.f6.params[j]? = some t → args[j]? = some v → Value.okWide Try.prog W .any base t v := hval0
  have hsz : (DataW.weightsEach Try.prog (Try.f6.params.toList ++ Rows.gaugePartsSpec.plain.varTypes Try.prog) (ds ++ gs)).all (· ≤ reachBytes) = true := hsz0
  have hW' := hW
  obtain ⟨p, q, hA0, hV, rfl, hfz, hnd⟩ := hW
  have hA : DataW.TrodAll enc Try.prog W 0 (fun _ => true) true Try.f6.params.toList args.toList ds p := hA0
  rw [Try.params6] at hA hval hsz
  obtain ⟨v0, vs0, d0, ds0, p0, q0, hargs, rfl, rfl, h0, r0⟩ := trodAll_cons hA
  obtain ⟨v1, vs1, d1, ds1, p1, q1, rfl, rfl, rfl, h1, r1⟩ := trodAll_cons r0
  obtain ⟨rfl, rfl, rfl⟩ := trodAll_nil r1
  obtain rfl : args = #[v0, v1] := by cases args; simp_all
  obtain ⟨rfl, rfl⟩ := trodVars_none hV
  have k0 := h0
  have lt0 : ∀ x ∈ p0, x.block < W.heap.size := by obtain ⟨m, hm⟩ := k0; exact DataW.trod_lt m _ _ _ hm
  obtain ⟨ao0, len0, cap0, rows0, e0, ra0, lb0⟩ : ∃ ao len cap rows, v0 = .slice ao len cap ∧ RecAt W 6 ao len rows ∧ len ≤ 1048576 := by
    obtain ⟨z0, y0, x0, q0⟩ := okWide_slice Try.underlying32 (hval 0 32 v0 rfl rfl)
    obtain ⟨fuel, hf⟩ := h0
    obtain ⟨ao, len, cap, rows, hcs, hra, _, _, hd⟩ := open_recs Try.underlying32 Try.underlying34 (by intro j f hj; match j, hj with | 0, hj => simp at hj; subst hj; exact ⟨rfl, by kernel_rfl, Try.underlying3⟩ | 1, hj => simp at hj; subst hj; exact ⟨rfl, by kernel_rfl, Try.underlying3⟩ | 2, hj => simp at hj; subst hj; exact ⟨rfl, by kernel_rfl, Try.underlying3⟩ | 3, hj => simp at hj; subst hj; exact ⟨rfl, by kernel_rfl, Try.underlying3⟩ | 4, hj => simp at hj; subst hj; exact ⟨rfl, by kernel_rfl, Try.underlying3⟩ | 5, hj => simp at hj; subst hj; exact ⟨rfl, by kernel_rfl, Try.underlying3⟩ | j + 6, hj => simp at hj) cells34 (by decide) hf
    rw [q0] at hcs
    simp only [Value.cells, List.cons.injEq, and_true] at hcs
    refine ⟨ao, len, cap, rows, by rw [q0]; exact hcs, hra, ?_⟩
    rcases hd with ⟨_, hz⟩ | ⟨elems, sp, hd, hel⟩
    · rw [hz]; omega
    · simp only at hd
      rw [← hel]
      exact BK.len_le hk (by rw [← hd]; simp)
  subst e0
  have k1 := h1
  have lt1 : ∀ x ∈ p1, x.block < W.heap.size := by obtain ⟨m, hm⟩ := k1; exact DataW.trod_lt m _ _ _ hm
  obtain ⟨ao1, len1, cap1, rows1, e1, ra1, lb1⟩ : ∃ ao len cap rows, v1 = .slice ao len cap ∧ RecAt W 6 ao len rows ∧ len ≤ 1048576 := by
    obtain ⟨z1, y1, x1, q1⟩ := okWide_slice Try.underlying32 (hval 1 32 v1 rfl rfl)
    obtain ⟨fuel, hf⟩ := h1
    obtain ⟨ao, len, cap, rows, hcs, hra, _, _, hd⟩ := open_recs Try.underlying32 Try.underlying34 (by intro j f hj; match j, hj with | 0, hj => simp at hj; subst hj; exact ⟨rfl, by kernel_rfl, Try.underlying3⟩ | 1, hj => simp at hj; subst hj; exact ⟨rfl, by kernel_rfl, Try.underlying3⟩ | 2, hj => simp at hj; subst hj; exact ⟨rfl, by kernel_rfl, Try.underlying3⟩ | 3, hj => simp at hj; subst hj; exact ⟨rfl, by kernel_rfl, Try.underlying3⟩ | 4, hj => simp at hj; subst hj; exact ⟨rfl, by kernel_rfl, Try.underlying3⟩ | 5, hj => simp at hj; subst hj; exact ⟨rfl, by kernel_rfl, Try.underlying3⟩ | j + 6, hj => simp at hj) cells34 (by decide) hf
    rw [q1] at hcs
    simp only [Value.cells, List.cons.injEq, and_true] at hcs
    refine ⟨ao, len, cap, rows, by rw [q1]; exact hcs, hra, ?_⟩
    rcases hd with ⟨_, hz⟩ | ⟨elems, sp, hd, hel⟩
    · rw [hz]; omega
    · simp only at hd
      rw [← hel]
      exact BK.len_le hk (by rw [← hd]; simp)
  subst e1
  clear hA0 hval0 hsz0
  refine (GG.gaugeParts_walk ao0 len0 cap0 rows0 ao1 len1 cap1 rows1 W ra0 lb0 ra1 lb1).mono fun e W' ⟨he, bel⟩ => ?_
  subst he
  exact ⟨_, rfl, _, _, _, [], _, [], hW', trodAll_mk1 (shut_bool Try.underlying4 _), (trodAll_cons_mk (Below.trod laidOut (by kernel_rfl) (of_decide_eq_true (by kernel_rfl)) k0 bel lt0) (trodAll_cons_mk (Below.trod laidOut (by kernel_rfl) (of_decide_eq_true (by kernel_rfl)) k1 bel lt1) trodAll_mk0)), rfl, bel.frame _, fun h => by cases h⟩

theorem over : Rows.gaugePartsUptoRow.holds Try.pinned (Rows.OpenSpec.upto Rows.gaugePartsSpec) :=
  OpenClaim.holds_of_cond 6 Try.f6 rfl rfl rfl rfl rfl rfl rfl ⟨rfl, rfl, rfl, rfl, rfl⟩ rfl rfl rfl rfl rfl (by kernel_rfl) Try.func6 (by kernel_rfl)
    (of_decide_eq_true (by kernel_rfl)) (by unfold Func.isWrapper; first | (rw [if_pos (by decide +kernel)]; kernel_rfl) | (rw [if_neg (by decide +kernel)]; exact ⟨rfl, rfl⟩))
    (fun os started H enc _ F => lifted os started H enc F)

/-- the statement -/
theorem proved : Rows.GaugePartsUptoSaid := over
#print axioms proved
end Go.Proofs.Ytbhgjaaaffjjeaa.gaugeParts
