/- Whatever is taken, given, spent and freed, of whatever tasks: every answer, and behind each call all that is held, is as the document says; no condition. -/
import Derived.Test.YtlcbgkicooeklaaRows
import Derived.WalkKit
import Derived.ProofKit
import Derived.OpenShut
import Derived.ShutString
import Derived.ChangeOld
import Derived.Below
import Derived.SizedLaws
import Derived.Test.YtlcbgkicooeklaaArgs
import Derived.Test.YtlcbgkicooeklaaTskAt
import Derived.Test.YtlcbgkicooeklaaLckPlaysW
namespace Go.Proofs.Ytlcbgkicooeklaa.locksPlays
open Go.ChangeShapes Go.WideShapes Go.ChangeAt Go.RowKit Go.Proofs.Ytlcbgkicooeklaa.AR
set_option linter.unusedVariables false

theorem own : ownKnob Try.prog.godebug = none := by kernel_rfl
theorem laidOut : laidOutB Try.prog = true := by kernel_rfl

theorem bytes28 : Try.prog.bytesOf 28 = 32 := by kernel_rfl
theorem cells28 : Try.prog.cellsOf 28 = 4 := by kernel_rfl

set_option maxRecDepth 100000 in
theorem lifted (os : Os) (started : os.Started) (H : Type) (enc : TypeId × Value → H) :
    ReturnsInHanded {} Try.checked os 3 .any (Rows.locksPlaysSpec.pre6 enc Try.prog Try.f3 Rows.locksPlaysRow.domain false) (Rows.locksPlaysSpec.post enc Try.prog Try.f3 false true false false) := by
  refine returnsInHanded_of_change_sized (C := Try.checked) own started (by kernel_rfl) Try.func3
    (ChangeSpec.witness6 (enc := enc) (C := Try.checked) false ⟨#[], #[.slice none 0 0, .slice none 0 0], []⟩ 8 (by kernel_rfl) (by kernel_rfl) (by kernel_rfl) (by kernel_rfl)) ?_
  intro W base args ds gs before hval0 hW hcnd hsz0 _
  have hval : ∀ (j : Nat) t v, Try.f3.params[j]? = some t → args[j]? = some v → Value.okWide Try.prog W .any base t v := hval0
  have hsz : (DataW.weightsEach Try.prog (Try.f3.params.toList ++ Rows.locksPlaysSpec.plain.varTypes Try.prog) (ds ++ gs)).all (· ≤ reachBytes) = true := hsz0
  have hW' := hW
  obtain ⟨p, q, hA0, hV, rfl, hfz, hnd⟩ := hW
  have hA : DataW.TrodAll enc Try.prog W 0 (fun _ => true) true Try.f3.params.toList args.toList ds p := hA0
  rw [Try.params3] at hA hval hsz
  obtain ⟨v0, vs0, d0, ds0, p0, q0, hargs, rfl, rfl, h0, r0⟩ := trodAll_cons hA
  obtain ⟨v1, vs1, d1, ds1, p1, q1, rfl, rfl, rfl, h1, r1⟩ := trodAll_cons r0
  obtain ⟨rfl, rfl, rfl⟩ := trodAll_nil r1
  obtain rfl : args = #[v0, v1] := by cases args; simp_all
  obtain ⟨rfl, rfl⟩ := trodVars_none hV
  have k0 := h0
  have lt0 : ∀ x ∈ p0, x.block < W.heap.size := by obtain ⟨m, hm⟩ := k0; exact DataW.trod_lt m _ _ _ hm
  have hz0 : ∀ z ∈ d0.weights Try.prog 22, z ≤ reachBytes := fun z hz => of_decide_eq_true (List.all_eq_true.1 hsz _ (DataW.weights_mem_each (j := 0) rfl rfl z hz))
  obtain ⟨ao0, len0, cap0, L0, e0, ta0, tb0⟩ := TK.open_tks (hval 0 22 v0 rfl rfl) h0 hz0
  subst e0
  have k1 := h1
  have lt1 : ∀ x ∈ p1, x.block < W.heap.size := by obtain ⟨m, hm⟩ := k1; exact DataW.trod_lt m _ _ _ hm
  obtain ⟨ao1, len1, cap1, rows1, e1, ra1, lb1⟩ : ∃ ao len cap rows, v1 = .slice ao len cap ∧ RecAt W 4 ao len rows ∧ len * 32 ≤ 140737488351232 := by
    obtain ⟨z1, y1, x1, q1⟩ := okWide_slice Try.underlying23 (hval 1 23 v1 rfl rfl)
    obtain ⟨fuel, hf⟩ := h1
    obtain ⟨ao, len, cap, rows, hcs, hra, _, _, hd⟩ := open_recs Try.underlying23 Try.underlying28 (by intro j f hj; match j, hj with | 0, hj => simp at hj; subst hj; exact ⟨rfl, by kernel_rfl, Try.underlying3⟩ | 1, hj => simp at hj; subst hj; exact ⟨rfl, by kernel_rfl, Try.underlying3⟩ | 2, hj => simp at hj; subst hj; exact ⟨rfl, by kernel_rfl, Try.underlying3⟩ | 3, hj => simp at hj; subst hj; exact ⟨rfl, by kernel_rfl, Try.underlying3⟩ | j + 4, hj => simp at hj) cells28 (by decide) hf
    rw [q1] at hcs
    simp only [Value.cells, List.cons.injEq, and_true] at hcs
    refine ⟨ao, len, cap, rows, by rw [q1]; exact hcs, hra, ?_⟩
    rcases hd with ⟨_, hz⟩ | ⟨elems, sp, hd, hel⟩
    · rw [hz]; omega
    · simp only at hd
      have := sized_slice hsz (j := 1) (t := 23) (e := 28) (elems := elems) (spare := sp) rfl (by rw [← hd]; rfl) Try.underlying23
      rw [bytes28] at this
      simp only [reachBytes] at this
      rw [← hel]
      have : elems.length * 32 ≤ (elems.length + sp.length) * 32 := Nat.mul_le_mul_right _ (Nat.le_add_right _ _)
      omega
  subst e1
  clear hA0 hval0 hsz0
  refine (LK.locksPlays_walk ao0 len0 cap0 L0 ao1 len1 cap1 rows1 W ta0 tb0 ra1 lb1).mono fun e W' ⟨he, bel⟩ => ?_
  subst he
  exact ⟨_, rfl, _, _, _, [], _, [], hW', trodAll_mk1 (shut_bool Try.underlying4 _), (trodAll_cons_mk (Below.trod laidOut (by kernel_rfl) (of_decide_eq_true (by kernel_rfl)) k0 bel lt0) (trodAll_cons_mk (Below.trod laidOut (by kernel_rfl) (of_decide_eq_true (by kernel_rfl)) k1 bel lt1) trodAll_mk0)), rfl, bel.frame _, fun h => by cases h⟩

theorem over : Rows.locksPlaysRow.holds Try.pinned (OpenSpec.ofChange Rows.locksPlaysSpec) :=
  OpenClaim.holds_of_wide 3 Try.f3 rfl rfl rfl rfl rfl rfl rfl ⟨rfl, rfl, rfl, rfl, rfl⟩ rfl rfl rfl rfl rfl (by kernel_rfl) Try.func3 (by kernel_rfl)
    (of_decide_eq_true (by kernel_rfl)) (by unfold Func.isWrapper; first | (rw [if_pos (by decide +kernel)]; kernel_rfl) | (rw [if_neg (by decide +kernel)]; exact ⟨rfl, rfl⟩))
    (fun os started H enc _ => lifted os started H enc)

/-- the statement -/
theorem proved : Rows.LocksPlaysSaid := over
#print axioms proved
end Go.Proofs.Ytlcbgkicooeklaa.locksPlays
