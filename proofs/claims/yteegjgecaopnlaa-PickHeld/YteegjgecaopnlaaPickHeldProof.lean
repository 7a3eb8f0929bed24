/- A job that is not started, of a period that is not below the ceiling, waits for whoever was started last: at every input. -/
import Derived.Test.YteegjgecaopnlaaRows
import Derived.WalkKit
import Derived.ProofKit
import Derived.OpenShut
import Derived.ShutString
import Derived.ChangeOld
import Derived.Below
import Derived.SizedLaws
import Derived.Test.YteegjgecaopnlaaArgs
import Derived.Test.YteegjgecaopnlaaTskAt
import Derived.Test.YteegjgecaopnlaaJobLst
import Derived.Test.YteegjgecaopnlaaPckHeldW
namespace Go.Proofs.Yteegjgecaopnlaa.pickHeld
open Go.ChangeShapes Go.WideShapes Go.ChangeAt Go.RowKit Go.Proofs.Yteegjgecaopnlaa.AR
set_option linter.unusedVariables false

theorem own : ownKnob Try.prog.godebug = none := by kernel_rfl
theorem laidOut : laidOutB Try.prog = true := by kernel_rfl

theorem bytes3 : Try.prog.bytesOf 3 = 8 := by kernel_rfl
theorem cells3 : Try.prog.cellsOf 3 = 1 := by kernel_rfl

set_option maxRecDepth 100000 in
theorem lifted (os : Os) (started : os.Started) (H : Type) (enc : TypeId × Value → H) :
    ReturnsInHanded {} Try.checked os 6 .any (Rows.pickHeldSpec.pre6 enc Try.prog Try.f6 Rows.pickHeldRow.domain false) (Rows.pickHeldSpec.post enc Try.prog Try.f6 false true false false) := by
  refine returnsInHanded_of_change_sized (C := Try.checked) own started (by kernel_rfl) Try.func6
    (ChangeSpec.witness6 (enc := enc) (C := Try.checked) false ⟨#[], #[.slice none 0 0, .slice none 0 0, .slice none 0 0, .int .i64 0], []⟩ 8 (by kernel_rfl) (by kernel_rfl) (by kernel_rfl) (by kernel_rfl)) ?_
  intro W base args ds gs before hval0 hW hcnd hsz0 _
  have hval : ∀ (j : Nat) t v, Try.f6.params[j]? = some t → args[j]? = some v → Value.okWide Try.prog W .any base t v := hval0
  have hsz : (DataW.weightsEach Try.prog (Try.f6.params.toList ++ Rows.pickHeldSpec.plain.varTypes Try.prog) (ds ++ gs)).all (· ≤ reachBytes) = true := hsz0
  have hW' := hW
  obtain ⟨p, q, hA0, hV, rfl, hfz, hnd⟩ := hW
  have hA : DataW.TrodAll enc Try.prog W 0 (fun _ => true) true Try.f6.params.toList args.toList ds p := hA0
  rw [Try.params6] at hA hval hsz
  obtain ⟨v0, vs0, d0, ds0, p0, q0, hargs, rfl, rfl, h0, r0⟩ := trodAll_cons hA
  obtain ⟨v1, vs1, d1, ds1, p1, q1, rfl, rfl, rfl, h1, r1⟩ := trodAll_cons r0
  obtain ⟨v2, vs2, d2, ds2, p2, q2, rfl, rfl, rfl, h2, r2⟩ := trodAll_cons r1
  obtain ⟨v3, vs3, d3, ds3, p3, q3, rfl, rfl, rfl, h3, r3⟩ := trodAll_cons r2
  obtain ⟨rfl, rfl, rfl⟩ := trodAll_nil r3
  obtain rfl : args = #[v0, v1, v2, v3] := by cases args; simp_all
  obtain ⟨rfl, rfl⟩ := trodVars_none hV
  have k0 := h0
  have lt0 : ∀ x ∈ p0, x.block < W.heap.size := by obtain ⟨m, hm⟩ := k0; exact DataW.trod_lt m _ _ _ hm
  have hz0 : ∀ z ∈ d0.weights Try.prog 22, z ≤ reachBytes := fun z hz => of_decide_eq_true (List.all_eq_true.1 hsz _ (DataW.weights_mem_each (j := 0) rfl rfl z hz))
  obtain ⟨ao0, len0, cap0, L0, e0, ta0, tb0⟩ := TK.open_tks (hval 0 22 v0 rfl rfl) h0 hz0
  subst e0
  have k1 := h1
  have lt1 : ∀ x ∈ p1, x.block < W.heap.size := by obtain ⟨m, hm⟩ := k1; exact DataW.trod_lt m _ _ _ hm
  have hz1 : ∀ z ∈ d1.weights Try.prog 23, z ≤ reachBytes := fun z hz => of_decide_eq_true (List.all_eq_true.1 hsz _ (DataW.weights_mem_each (j := 1) rfl rfl z hz))
  obtain ⟨ao1, len1, cap1, L1, e1, ta1⟩ := JB.open_jbs (hval 1 23 v1 rfl rfl) h1 hz1
  subst e1
  have k2 := h2
  have lt2 : ∀ x ∈ p2, x.block < W.heap.size := by obtain ⟨m, hm⟩ := k2; exact DataW.trod_lt m _ _ _ hm
  obtain ⟨ao2, len2, cap2, rows2, e2, ra2, lb2⟩ : ∃ ao len cap rows, v2 = .slice ao len cap ∧ IntsAt W ao len rows ∧ len * 8 ≤ 140737488351232 := by
    obtain ⟨z2, y2, x2, q2⟩ := okWide_slice Try.underlying24 (hval 2 24 v2 rfl rfl)
    obtain ⟨fuel, hf⟩ := h2
    obtain ⟨ao, len, cap, rows, hcs, hra, _, _, hd⟩ := open_intlist Try.underlying24 Try.underlying3 cells3 hf
    rw [q2] at hcs
    simp only [Value.cells, List.cons.injEq, and_true] at hcs
    refine ⟨ao, len, cap, rows, by rw [q2]; exact hcs, hra, ?_⟩
    rcases hd with ⟨_, hz⟩ | ⟨elems, sp, hd, hel⟩
    · rw [hz]; omega
    · simp only at hd
      have := sized_slice hsz (j := 2) (t := 24) (e := 3) (elems := elems) (spare := sp) rfl (by rw [← hd]; rfl) Try.underlying24
      rw [bytes3] at this
      simp only [reachBytes] at this
      rw [← hel]
      have : elems.length * 8 ≤ (elems.length + sp.length) * 8 := Nat.mul_le_mul_right _ (Nat.le_add_right _ _)
      omega
  subst e2
  obtain ⟨a3, rfl, rfl, rfl, w3⟩ := open_int Try.underlying3 (hval 3 3 v3 rfl rfl) h3
  clear hA0 hval0 hsz0
  refine (PK.pickHeld_walk ao0 len0 cap0 L0 ao1 len1 cap1 L1 ao2 len2 cap2 rows2 a3 W ta0 tb0 ta1 ra2 lb2 w3).mono fun e W' ⟨he, bel⟩ => ?_
  subst he
  exact ⟨_, rfl, _, _, _, [], _, [], hW', trodAll_mk1 (shut_bool Try.underlying4 _), (trodAll_cons_mk (Below.trod laidOut (by kernel_rfl) (of_decide_eq_true (by kernel_rfl)) k0 bel lt0) (trodAll_cons_mk (Below.trod laidOut (by kernel_rfl) (of_decide_eq_true (by kernel_rfl)) k1 bel lt1) (trodAll_cons_mk (Below.trod laidOut (by kernel_rfl) (of_decide_eq_true (by kernel_rfl)) k2 bel lt2) (trodAll_cons_mk (shut_int Try.underlying3 w3) trodAll_mk0)))), rfl, bel.frame _, fun h => by cases h⟩

theorem over : Rows.pickHeldRow.holds Try.pinned (OpenSpec.ofChange Rows.pickHeldSpec) :=
  OpenClaim.holds_of_wide 6 Try.f6 rfl rfl rfl rfl rfl rfl rfl ⟨rfl, rfl, rfl, rfl, rfl⟩ rfl rfl rfl rfl rfl (by kernel_rfl) Try.func6 (by kernel_rfl)
    (of_decide_eq_true (by kernel_rfl)) (by unfold Func.isWrapper; first | (rw [if_pos (by decide +kernel)]; kernel_rfl) | (rw [if_neg (by decide +kernel)]; exact ⟨rfl, rfl⟩))
    (fun os started H enc _ => lifted os started H enc)

/-- the statement -/
theorem proved : Rows.PickHeldSaid := over
#print axioms proved
end Go.Proofs.Yteegjgecaopnlaa.pickHeld
