/- That a gauge answers at all; what any cycles cost; what any intervals have. -/
import Derived.Test.YtbhgjaaaffjjeaaGagCnt
import Derived.Deep.RegionHeld3
namespace Go.Proofs.Ytbhgjaaaffjjeaa.GG
open Go.ChangeShapes Go.WideShapes Go.ChangeAt Go.RowKit Go.Proofs.Ytbhgjaaaffjjeaa.AR Go.Proofs.Ytbhgjaaaffjjeaa.TB
set_option linter.unusedVariables false

def nearB (x : Int) : Bool := decide (0 ≤ x) && decide (x ≤ 1073741824)
theorem nearB_t {x : Int} : nearB x = true ↔ 0 ≤ x ∧ x ≤ 1073741824 := by simp [nearB]

theorem near_any (x : Int) (w : World) :
    Calls Try.prog 8 #[.int .i64 x] w fun e w' => e = .returned (.bool (nearB x)) ∧ w = w' := by
  by_cases c0 : 0 ≤ x
  · have HN : Hid (decide (x ≤ 1073741824) = nearB x) := by show _ = (decide _ && _); rw [decide_eq_true c0, Bool.true_and]
    generalize nearB x = res at *
    go_enter Try.func8, Try.ntmps8
    go_wp2
    go_ret
    exact ⟨congrArg (fun b => Ending.returned (Value.bool b)) HN.out, rfl⟩
  · have HN : Hid (false = nearB x) := by show _ = (decide _ && _); rw [decide_eq_false c0, Bool.false_and]
    generalize nearB x = res at *
    go_enter Try.func8, Try.ntmps8
    go_wp2
    go_ret
    exact ⟨congrArg (fun b => Ending.returned (Value.bool b)) HN.out, rfl⟩

theorem lit_level {w w' : World} (k : Kp (w.alloc (.cells #[.int .i64 2, .int .i64 5] 40)) w') : RecAt w' 2 (some ⟨w.heap.size, 0, none⟩) 1 [[2, 5]] := by
  refine ⟨rfl, ?_, .inr ⟨w.heap.size, 0, rfl, ?_, ?_⟩⟩
  · intro r hr
    simp at hr
    subst hr
    refine ⟨rfl, fun y hy => ?_⟩
    simp at hy
    unfold I64
    omega
  · have := k.size
    simp at this
    omega
  · intro i j hi hj
    obtain rfl : i = 0 := by omega
    rw [k.cell (by simp)]
    match j, hj with
    | 0, _ => simp
    | 1, _ => simp

abbrev lit3 : List (List Int) := [[1, 0, 0, 0, 0, 2], [3, 0, 0, 0, 0, 0], [2, 0, 0, 0, 0, 9]]
abbrev litC : Array Value := #[.int .i64 1, .int .i64 0, .int .i64 0, .int .i64 0, .int .i64 0, .int .i64 2, .int .i64 3, .int .i64 0, .int .i64 0, .int .i64 0, .int .i64 0, .int .i64 0, .int .i64 2, .int .i64 0, .int .i64 0, .int .i64 0, .int .i64 0, .int .i64 9]

theorem lit_list {w w' : World} (k : Kp (w.alloc (.cells litC 34)) w') : RecAt w' 6 (some ⟨w.heap.size, 0, none⟩) 3 lit3 := by
  refine ⟨rfl, ?_, .inr ⟨w.heap.size, 0, rfl, ?_, ?_⟩⟩
  · intro r hr
    simp only [lit3, List.mem_cons, List.not_mem_nil, or_false] at hr
    rcases hr with rfl | rfl | rfl <;> (refine ⟨rfl, fun y hy => ?_⟩; simp at hy; unfold I64; omega)
  · have := k.size
    simp at this
    omega
  · intro i j hi hj
    rw [k.cell (by simp)]
    match i, hi with
    | 0, _ => match j, hj with
      | 0, _ => simp
      | 1, _ => simp
      | 2, _ => simp
      | 3, _ => simp
      | 4, _ => simp
      | 5, _ => simp
    | 1, _ => match j, hj with
      | 0, _ => simp
      | 1, _ => simp
      | 2, _ => simp
      | 3, _ => simp
      | 4, _ => simp
      | 5, _ => simp
    | 2, _ => match j, hj with
      | 0, _ => simp
      | 1, _ => simp
      | 2, _ => simp
      | 3, _ => simp
      | 4, _ => simp
      | 5, _ => simp

set_option maxHeartbeats 4000000 in
theorem ganswers_any (w : World) :
    Calls Try.prog 9 #[] w fun e w' => e = .returned (.bool true) ∧ Kp w w' := by
  have hB : Hid (bdI 2 10 (fd [[2, 5]] 0 0) (fd [[2, 5]] 0 1) 3 = 28) := by show _ = _; decide
  have hN : Hid (Nb 2 10 (fd [[2, 5]] 0 0) (fd [[2, 5]] 0 1) 3) := by
    show Nb 2 10 2 5 3
    exact ⟨by omega, by omega, by omega, by omega, by omega⟩
  have hC : Hid (wrap64 (cyS lit3 3) = 2) := by show _ = _; simp [cyS, fd, wrap64]
  have hS : Hid (wrap64 (swS lit3 3) = 1) := by show _ = _; simp [swS, fd, wrap64]
  have HA : Hid (∀ o o1 o2, Kp w (((w.alloc o).alloc o1).alloc o2)) := fun o o1 o2 => (((Kp.refl _).alloc _).alloc o1).alloc o2
  have HB : Hid (∀ o o1 o2, Kp (w.alloc o) (((w.alloc o).alloc o1).alloc o2)) := fun o o1 o2 => ((Kp.refl _).alloc o1).alloc o2
  go_enter Try.func9, Try.ntmps9
  go_wp2_with fail
  refine (bound_any (some ⟨w.heap.size, 0, none⟩) 1 1 [[2, 5]] none 0 0 none 0 0 3 0 0 0 0 50 2 10 _ (lit_level (HB.out _ _ _)) (by omega) (by omega) hN.out).mono ?_
  rintro e w1 ⟨rfl, k1⟩
  rw [hB.out]
  have K1 := (HA.out _ _ _).trans k1
  have HL : Hid (∀ W, Kp w1 W → RecAt W 6 (some ⟨w.heap.size + 1 + 1, 0, none⟩) 3 lit3) := fun W q => by
    have := lit_list (k1.trans q)
    simpa using this
  clear k1
  go_wp2_with fail
  refine (cycles_any (some ⟨w.heap.size + 1 + 1, 0, none⟩) 3 3 lit3 _ (HL.out _ (Kp.refl _)) (by omega)).mono ?_
  rintro e w2 ⟨rfl, k2⟩
  rw [hC.out]
  go_wp2_with fail
  refine (switches_any (some ⟨w.heap.size + 1 + 1, 0, none⟩) 3 3 lit3 _ (HL.out _ k2) (by omega)).mono ?_
  rintro e w3 ⟨rfl, k3⟩
  rw [hS.out]
  go_wp2
  go_ret
  exact ⟨rfl, K1.trans (k2.trans k3)⟩

/-- the first level of a machine that may be, and what may be asked of it -/
theorem nb_of {lL : Nat} {rL : List (List Int)} {lS : Nat} {rS : List (List Int)} {lD : Nat} {rD : List (List Int)} {idle crit sw swe sems hor c e : Int} (h : mayB lL rL lS rS lD rD idle crit sw swe sems hor = true) (hc : 0 ≤ c ∧ c ≤ 1073741824) (he : 0 ≤ e ∧ e ≤ 1073741824) :
    1 ≤ lL ∧ Nb c e (fd rL 0 0) (fd rL 0 1) idle := by
  obtain ⟨q1, q2, _⟩ := mayB_t.1 h
  have hl : 1 ≤ lL := q2.1.1
  have l := lev_pos q2.2 0 (by omega)
  have m := (q2.2 0 (by omega)).2
  exact ⟨q2.1.1, hc, he, l, m, q1.1⟩

set_option maxHeartbeats 16000000 in
theorem gaugeBound_walk (aL : Option Addr) (lL cL : Nat) (rL : List (List Int)) (aS : Option Addr) (lS cS : Nat) (rS : List (List Int)) (aD : Option Addr) (lD cD : Nat) (rD : List (List Int)) (idle crit sw swe sems hor : Int) (c e : Int) (w : World)
    (h : Mach w aL lL rL aS lS rS aD lD rD) (hc : (Lit.int .i64 c).wf = true) (he : (Lit.int .i64 e).wf = true) :
    Calls Try.prog 3 #[pv aL lL cL aS lS cS aD lD cD idle crit sw swe sems hor, .int .i64 c, .int .i64 e] w
      fun r w' => r = .returned (.bool true) ∧ Below w.heap.size w w' := by
  have HB : Hid (∀ o, Kp w (w.alloc o)) := fun o => (Kp.refl w).alloc o
  have HE : Hid (∀ w', Kp w w' → Below w.heap.size w w') := fun w' q => q
  have HT : Hid (∀ W, Kp w W → Calls Try.prog 7 #[pv aL lL cL aS lS cS aD lD cD idle crit sw swe sems hor] W fun e w' => e = .returned (.bool (mayB lL rL lS rS lD rD idle crit sw swe sems hor)) ∧ Kp W w') := fun W k => reftable_any aL lL cL rL aS lS cS rS aD lD cD rD idle crit sw swe sems hor W (h.kept k)
  have HQ : Hid (mayB lL rL lS rS lD rD idle crit sw swe sems hor = true → nearB c = true → nearB e = true → (∀ W, Kp w W → Calls Try.prog 10 #[pv aL lL cL aS lS cS aD lD cD idle crit sw swe sems hor, .int .i64 c, .int .i64 e] W fun r w' => r = .returned (.int .i64 (bdI c e (fd rL 0 0) (fd rL 0 1) idle)) ∧ Kp W w') ∧
      (∀ W, Kp w W → Calls Try.prog 11 #[pv aL lL cL aS lS cS aD lD cD idle crit sw swe sems hor, .int .i64 c, .int .i64 e] W fun r w' => r = .returned (.int .i64 (bdI c e (fd rL 0 0) (fd rL 0 1) idle)) ∧ Kp W w')) := by
    intro hm hc he
    obtain ⟨l, n⟩ := nb_of hm (nearB_t.1 hc) (nearB_t.1 he)
    exact ⟨fun W k => bound_any aL lL cL rL aS lS cS aD lD cD idle crit sw swe sems hor c e W (TB.RecAt.kept h.lev k) l h.nL n, fun W k => rbound_any aL lL cL rL aS lS cS aD lD cD idle crit sw swe sems hor c e W (TB.RecAt.kept h.lev k) l h.nL n⟩
  generalize bdI c e (fd rL 0 0) (fd rL 0 1) idle = res at *
  generalize mayB lL rL lS rS lD rD idle crit sw swe sems hor = may at *
  unfold pv at *
  have nc := near_any c
  have ne := near_any e
  generalize nearB c = b1 at *
  generalize nearB e = b2 at *
  have NC : Hid _ := nc
  have NE : Hid _ := ne
  clear nc ne h hc he
  have HF : Hid (¬ (may = true ∧ b1 = true ∧ b2 = true) → Calls Try.prog 3 #[.agg #[.slice aL lL cL, .slice aS lS cS, .slice aD lD cD, .int .i64 idle, .int .i64 crit, .int .i64 sw, .int .i64 swe, .int .i64 sems, .int .i64 hor], .int .i64 c, .int .i64 e] w
      fun r w' => r = .returned (.bool true) ∧ Below w.heap.size w w') := by
    intro hno
    cases may with
    | false =>
      clear hno HQ
      go_enter Try.func3, Try.ntmps3
      try dsimp only [List.append]
      go_wp2_with fail
      refine Calls.mono (HT.out _ (HB.out _)) ?_
      rintro r w1 ⟨rfl, k1⟩
      have K1 := (HB.out _).trans k1
      clear k1
      go_wp2_with fail
      refine (ganswers_any _).mono ?_
      rintro r w2 ⟨rfl, k2⟩
      go_wp2
      go_ret
      exact ⟨rfl, HE.out _ (K1.trans k2)⟩
    | true =>
      cases b1 with
      | false =>
        clear hno HQ
        go_enter Try.func3, Try.ntmps3
        try dsimp only [List.append]
        go_wp2_with fail
        refine Calls.mono (HT.out _ (HB.out _)) ?_
        rintro r w1 ⟨rfl, k1⟩
        have K1 := (HB.out _).trans k1
        clear k1
        go_wp2_with fail
        refine (NC.out _).mono ?_
        rintro r w2 ⟨rfl, rfl⟩
        go_wp2_with fail
        refine (ganswers_any _).mono ?_
        rintro r w2 ⟨rfl, k2⟩
        go_wp2
        go_ret
        exact ⟨rfl, HE.out _ (K1.trans k2)⟩
      | true =>
        cases b2 with
        | true => exact absurd ⟨rfl, rfl, rfl⟩ hno
        | false =>
          clear hno HQ
          go_enter Try.func3, Try.ntmps3
          try dsimp only [List.append]
          go_wp2_with fail
          refine Calls.mono (HT.out _ (HB.out _)) ?_
          rintro r w1 ⟨rfl, k1⟩
          have K1 := (HB.out _).trans k1
          clear k1
          go_wp2_with fail
          refine (NC.out _).mono ?_
          rintro r w2 ⟨rfl, rfl⟩
          go_wp2_with fail
          refine (NE.out _).mono ?_
          rintro r w2 ⟨rfl, rfl⟩
          go_wp2_with fail
          refine (ganswers_any _).mono ?_
          rintro r w2 ⟨rfl, k2⟩
          go_wp2
          go_ret
          exact ⟨rfl, HE.out _ (K1.trans k2)⟩
  by_cases hall : may = true ∧ b1 = true ∧ b2 = true
  · obtain ⟨rfl, rfl, rfl⟩ := hall
    clear HF
    obtain ⟨q1, q2⟩ := HQ.out rfl rfl rfl
    have Q1 : Hid _ := q1
    have Q2 : Hid _ := q2
    clear HQ q1 q2
    have hres : (res == res) = true := by simp
    go_enter Try.func3, Try.ntmps3
    try dsimp only [List.append]
    go_wp2_with fail
    refine Calls.mono (HT.out _ (HB.out _)) ?_
    rintro r w1 ⟨rfl, k1⟩
    obtain ⟨d0, d1, d2, d3, d4, d5, d6, d7, d8⟩ := box_cells k1
    have hsz : w.heap.size < w1.heap.size := by have := k1.size; simp at this; omega
    have K1 := (HB.out _).trans k1
    clear k1
    have HX : Hid (∀ W, Kp w1 W → ∀ i, W.cell? ⟨w.heap.size, i, none⟩ = w1.cell? ⟨w.heap.size, i, none⟩) := fun W k i => k.cell hsz
    go_wp2_with fail
    refine (NC.out _).mono ?_
    rintro r w2 ⟨rfl, rfl⟩
    go_wp2_with fail
    refine (NE.out _).mono ?_
    rintro r w2 ⟨rfl, rfl⟩
    go_wp2_with fail
    go_region_held3 (fun w' => w'.cell? ⟨w.heap.size, 0, none⟩ = some (.slice aL lL cL) ∧ w'.cell? ⟨w.heap.size, 1, none⟩ = some (.slice aS lS cS) ∧ w'.cell? ⟨w.heap.size, 2, none⟩ = some (.slice aD lD cD) ∧ w'.cell? ⟨w.heap.size, 3, none⟩ = some (.int .i64 idle) ∧ w'.cell? ⟨w.heap.size, 4, none⟩ = some (.int .i64 crit) ∧ w'.cell? ⟨w.heap.size, 5, none⟩ = some (.int .i64 sw) ∧ w'.cell? ⟨w.heap.size, 6, none⟩ = some (.int .i64 swe) ∧ w'.cell? ⟨w.heap.size, 7, none⟩ = some (.int .i64 sems) ∧ w'.cell? ⟨w.heap.size, 8, none⟩ = some (.int .i64 hor)) (go_keep) (first
      | (go_at_call 9; refine (ganswers_any _).mono ?_; rintro r w3 ⟨rfl, k3⟩; have L3 : Kp w1 w3 := (by first | exact (TB.kp_drew _).trans k3 | exact k3); clear k3; have q := HX.out _ L3; have z0 := (q 0).trans d0; have z1 := (q 1).trans d1; have z2 := (q 2).trans d2; have z3 := (q 3).trans d3; have z4 := (q 4).trans d4; have z5 := (q 5).trans d5; have z6 := (q 6).trans d6; have z7 := (q 7).trans d7; have z8 := (q 8).trans d8; clear q)
      | (go_at_call 10; refine Calls.mono (Q1.out _ (K1.trans L3)) ?_; rintro r w4 ⟨rfl, k4⟩; have L4 := L3.trans k4; clear k4; have q := HX.out _ L4; have z0 := (q 0).trans d0; have z1 := (q 1).trans d1; have z2 := (q 2).trans d2; have z3 := (q 3).trans d3; have z4 := (q 4).trans d4; have z5 := (q 5).trans d5; have z6 := (q 6).trans d6; have z7 := (q 7).trans d7; have z8 := (q 8).trans d8; clear q)
      | (go_at_call 11; refine Calls.mono (Q2.out _ (K1.trans L4)) ?_; rintro r w5 ⟨rfl, k5⟩; have L5 := L4.trans k5; clear k5; have q := HX.out _ L5; have z0 := (q 0).trans d0; have z1 := (q 1).trans d1; have z2 := (q 2).trans d2; have z3 := (q 3).trans d3; have z4 := (q 4).trans d4; have z5 := (q 5).trans d5; have z6 := (q 6).trans d6; have z7 := (q 7).trans d7; have z8 := (q 8).trans d8; clear q)
      | fail)
    all_goals
      go_wp2
      go_ret
      exact ⟨by simp, HE.out _ (K1.trans L5)⟩
  · exact HF.out hall

end Go.Proofs.Ytbhgjaaaffjjeaa.GG
