/- A machine that may be may be without its last device, or sleep state, or level behind Crit. -/
import Derived.Test.YtcdjgmcepjaldaaAns
namespace Go.Proofs.Ytcdjgmcepjaldaa.TB
open Go.ChangeShapes Go.WideShapes Go.ChangeAt Go.RowKit Go.Proofs.Ytcdjgmcepjaldaa.AR

theorem take_fd (r : List (List Int)) {n i j : Nat} (h : i < n) : fd (r.take n) i j = fd r i j := by
  unfold fd
  simp [List.getD_eq_getElem?_getD, h]

theorem take_ahd (r : List (List Int)) {n : Nat} : ∀ {i : Nat}, i < n → ahd (r.take n) i = ahd r i
  | 0, _ => rfl
  | i + 1, h => by simp only [ahd]; exact take_fd r (by omega)

/-- fewer rows lie there too -/
theorem RecAt.less {w : World} {ao : Option Addr} {len n : Nat} {rows : List (List Int)} (h : RecAt w n ao len rows) {m : Nat} (hm : m ≤ len) : RecAt w n ao m (rows.take m) := by
  refine ⟨by rw [List.length_take, h.1]; omega, fun r hr => h.2.1 r (List.mem_of_mem_take hr), ?_⟩
  by_cases hz : m = 0
  · exact .inl hz
  · rcases h.2.2 with h0 | ⟨b, off, e, hlt, hc⟩
    · omega
    · refine .inr ⟨b, off, e, hlt, fun i j hi hj => ?_⟩
      rw [hc i j (by omega) hj]
      have := take_fd rows (n := m) (i := i) (j := j) hi
      unfold fd at this
      rw [this]

theorem levs_less {n m : Nat} {r : List (List Int)} (h : Levs n r) (h1 : 1 ≤ m) (h2 : m ≤ n) : Levs m (r.take m) := by
  refine ⟨by have := h.1; omega, fun i hi => ?_⟩
  have := h.2 i (by omega)
  unfold Lev at *
  rw [take_fd r hi, take_fd r hi, take_ahd r hi]
  exact this

theorem slow_less {n m : Nat} {r : List (List Int)} {idle crit : Int} (h : Slow n r idle crit) (h2 : m ≤ n) : Slow m (r.take m) idle crit := by
  intro i hi h1 h3
  have := h i (by omega) h1 h3
  unfold net at *
  rw [take_fd r hi, take_fd r hi, take_fd r (by omega), take_fd r (by omega)]
  exact this

theorem slps_less {n m : Nat} {r : List (List Int)} {idle : Int} (h : Slps n r idle) (h2 : m ≤ n) : Slps m (r.take m) idle := by
  refine ⟨by have := h.1; omega, fun i hi => ?_⟩
  have := h.2 i (by omega)
  simp only [take_fd r hi]
  exact this

theorem devs_less {n m : Nat} {r : List (List Int)} (h : Devs n r) (h2 : m ≤ n) : Devs m (r.take m) := by
  refine ⟨by have := h.1; omega, fun i hi => ?_⟩
  have := h.2 i (by omega)
  simp only [take_fd r hi]
  exact this

theorem Mach.less {w : World} {aL : Option Addr} {lL : Nat} {rL : List (List Int)} {aS : Option Addr} {lS : Nat} {rS : List (List Int)} {aD : Option Addr} {lD : Nat} {rD : List (List Int)}
    (h : Mach w aL lL rL aS lS rS aD lD rD) {mL mS mD : Nat} (h1 : mL ≤ lL) (h2 : mS ≤ lS) (h3 : mD ≤ lD) : Mach w aL mL (rL.take mL) aS mS (rS.take mS) aD mD (rD.take mD) :=
  ⟨RecAt.less h.lev h1, RecAt.less h.slp h2, RecAt.less h.dvs h3, Nat.le_trans h1 h.nL, Nat.le_trans h2 h.nS, Nat.le_trans h3 h.nD⟩

theorem may_less {lL : Nat} {rL : List (List Int)} {lS : Nat} {rS : List (List Int)} {lD : Nat} {rD : List (List Int)} {idle crit sw swe sems hor : Int} {mL mS mD : Nat}
    (h : mayB lL rL lS rS lD rD idle crit sw swe sems hor = true) (h1 : mL ≤ lL) (h1' : crit < mL) (h2 : mS ≤ lS) (h3 : mD ≤ lD) : mayB mL (rL.take mL) mS (rS.take mS) mD (rD.take mD) idle crit sw swe sems hor = true := by
  obtain ⟨q1, q2, q3, q4, q5⟩ := mayB_t.1 h
  have hc := q1.2.1.1
  exact mayB_t.2 ⟨⟨q1.1, ⟨hc, by omega⟩, q1.2.2⟩, levs_less q2 (by omega) h1, slow_less q3 h1, slps_less q4 h2, devs_less q5 h3⟩

set_option maxHeartbeats 4000000 in
theorem tableLess_walk (aL : Option Addr) (lL cL : Nat) (rL : List (List Int)) (aS : Option Addr) (lS cS : Nat) (rS : List (List Int)) (aD : Option Addr) (lD cD : Nat) (rD : List (List Int)) (idle crit sw swe sems hor : Int) (w : World)
    (h : Mach w aL lL rL aS lS rS aD lD rD) (hcap : lL ≤ cL ∧ lS ≤ cS ∧ lD ≤ cD) :
    Calls Try.prog 6 #[pv aL lL cL aS lS cS aD lD cD idle crit sw swe sems hor] w
      fun e w' => e = .returned (.bool true) ∧ Below w.heap.size w w' := by
  have HB : Hid (∀ o, Kp w (w.alloc o)) := fun o => (Kp.refl w).alloc o
  have HE : Hid (∀ w', Kp w w' → Below w.heap.size w w') := fun w' q => q
  have et : Hid (erc true = 0) := rfl
  have ef : Hid (erc false = 2) := rfl
  unfold pv
  cases hm : mayB lL rL lS rS lD rD idle crit sw swe sems hor with
  | false =>
    go_enter Try.func6, Try.ntmps6
    go_wp2_with fail
    refine (check_any aL lL cL rL aS lS cS rS aD lD cD rD _ _ _ _ _ _ _ (h.kept (HB.out _))).mono ?_
    rintro e w1 ⟨rfl, k1⟩
    rw [hm, ef.out]
    go_wp2_with fail
    refine (tanswers_any _).mono ?_
    rintro e w2 ⟨rfl, k2⟩
    go_wp2
    go_ret
    exact ⟨rfl, HE.out _ ((HB.out _).trans (k1.trans k2))⟩
  | true =>
    have HM : Hid (mayB lL rL lS rS lD rD idle crit sw swe sems hor = true) := hm
    obtain ⟨q1, q2, q3, q4, q5⟩ := mayB_t.1 hm
    have a1 := q2.1
    have a2 := q4.1
    have a3 := q5.1
    have a4 := q1.2.1
    clear q1 q2 q3 q4 q5
    go_enter Try.func6, Try.ntmps6
    go_wp2_with fail
    refine (check_any aL lL cL rL aS lS cS rS aD lD cD rD _ _ _ _ _ _ _ (h.kept (HB.out _))).mono ?_
    rintro e w1 ⟨rfl, k1⟩
    rw [hm, et.out]
    clear hm
    obtain ⟨d0, d1, d2, d3, d4, d5, d6, d7, d8⟩ := box_cells k1
    have K1 := (HB.out _).trans k1
    have hsz : w.heap.size < w1.heap.size := by have := k1.size; simp at this; omega
    have hne : w.heap.size ≠ w1.heap.size := Nat.ne_of_lt hsz
    clear k1
    obtain ⟨p1, p2, p3⟩ := hcap
    by_cases gD : 0 < lD
    · by_cases gS : 0 < lS
      · by_cases gL : crit < (lL : Int) - 1
        · go_wp2_with fail
          refine (tanswers_any _).mono ?_
          rintro e w2 ⟨rfl, k2⟩
          obtain ⟨d0, d1, d2, d3, d4, d5, d6, d7, d8⟩ := box_cells k2
          have K2 := (K1.alloc _).trans k2
          clear k2
          go_wp2_with fail
          refine (check_any aL (lL - 1) cL (rL.take (lL - 1)) aS (lS - 1) cS (rS.take (lS - 1)) aD (lD - 1) cD (rD.take (lD - 1)) _ _ _ _ _ _ _ (Mach.less (h.kept K2) (by omega) (by omega) (by omega))).mono ?_
          rintro e w3 ⟨rfl, k3⟩
          rw [may_less HM.out (by omega) (by omega) (by omega) (by omega), et.out]
          go_wp2
          go_ret
          exact ⟨rfl, HE.out _ (K2.trans k3)⟩
        · go_wp2_with fail
          refine (tanswers_any _).mono ?_
          rintro e w2 ⟨rfl, k2⟩
          obtain ⟨d0, d1, d2, d3, d4, d5, d6, d7, d8⟩ := box_cells k2
          have K2 := (K1.alloc _).trans k2
          clear k2
          go_wp2_with fail
          refine (check_any aL lL cL (rL.take lL) aS (lS - 1) cS (rS.take (lS - 1)) aD (lD - 1) cD (rD.take (lD - 1)) _ _ _ _ _ _ _ (Mach.less (h.kept K2) (by omega) (by omega) (by omega))).mono ?_
          rintro e w3 ⟨rfl, k3⟩
          rw [may_less HM.out (by omega) (by omega) (by omega) (by omega), et.out]
          go_wp2
          go_ret
          exact ⟨rfl, HE.out _ (K2.trans k3)⟩
      · by_cases gL : crit < (lL : Int) - 1
        · go_wp2_with fail
          refine (tanswers_any _).mono ?_
          rintro e w2 ⟨rfl, k2⟩
          obtain ⟨d0, d1, d2, d3, d4, d5, d6, d7, d8⟩ := box_cells k2
          have K2 := (K1.alloc _).trans k2
          clear k2
          go_wp2_with fail
          refine (check_any aL (lL - 1) cL (rL.take (lL - 1)) aS lS cS (rS.take lS) aD (lD - 1) cD (rD.take (lD - 1)) _ _ _ _ _ _ _ (Mach.less (h.kept K2) (by omega) (by omega) (by omega))).mono ?_
          rintro e w3 ⟨rfl, k3⟩
          rw [may_less HM.out (by omega) (by omega) (by omega) (by omega), et.out]
          go_wp2
          go_ret
          exact ⟨rfl, HE.out _ (K2.trans k3)⟩
        · go_wp2_with fail
          refine (tanswers_any _).mono ?_
          rintro e w2 ⟨rfl, k2⟩
          obtain ⟨d0, d1, d2, d3, d4, d5, d6, d7, d8⟩ := box_cells k2
          have K2 := (K1.alloc _).trans k2
          clear k2
          go_wp2_with fail
          refine (check_any aL lL cL (rL.take lL) aS lS cS (rS.take lS) aD (lD - 1) cD (rD.take (lD - 1)) _ _ _ _ _ _ _ (Mach.less (h.kept K2) (by omega) (by omega) (by omega))).mono ?_
          rintro e w3 ⟨rfl, k3⟩
          rw [may_less HM.out (by omega) (by omega) (by omega) (by omega), et.out]
          go_wp2
          go_ret
          exact ⟨rfl, HE.out _ (K2.trans k3)⟩
    · by_cases gS : 0 < lS
      · by_cases gL : crit < (lL : Int) - 1
        · go_wp2_with fail
          refine (tanswers_any _).mono ?_
          rintro e w2 ⟨rfl, k2⟩
          obtain ⟨d0, d1, d2, d3, d4, d5, d6, d7, d8⟩ := box_cells k2
          have K2 := (K1.alloc _).trans k2
          clear k2
          go_wp2_with fail
          refine (check_any aL (lL - 1) cL (rL.take (lL - 1)) aS (lS - 1) cS (rS.take (lS - 1)) aD lD cD (rD.take lD) _ _ _ _ _ _ _ (Mach.less (h.kept K2) (by omega) (by omega) (by omega))).mono ?_
          rintro e w3 ⟨rfl, k3⟩
          rw [may_less HM.out (by omega) (by omega) (by omega) (by omega), et.out]
          go_wp2
          go_ret
          exact ⟨rfl, HE.out _ (K2.trans k3)⟩
        · go_wp2_with fail
          refine (tanswers_any _).mono ?_
          rintro e w2 ⟨rfl, k2⟩
          obtain ⟨d0, d1, d2, d3, d4, d5, d6, d7, d8⟩ := box_cells k2
          have K2 := (K1.alloc _).trans k2
          clear k2
          go_wp2_with fail
          refine (check_any aL lL cL (rL.take lL) aS (lS - 1) cS (rS.take (lS - 1)) aD lD cD (rD.take lD) _ _ _ _ _ _ _ (Mach.less (h.kept K2) (by omega) (by omega) (by omega))).mono ?_
          rintro e w3 ⟨rfl, k3⟩
          rw [may_less HM.out (by omega) (by omega) (by omega) (by omega), et.out]
          go_wp2
          go_ret
          exact ⟨rfl, HE.out _ (K2.trans k3)⟩
      · by_cases gL : crit < (lL : Int) - 1
        · go_wp2_with fail
          refine (tanswers_any _).mono ?_
          rintro e w2 ⟨rfl, k2⟩
          obtain ⟨d0, d1, d2, d3, d4, d5, d6, d7, d8⟩ := box_cells k2
          have K2 := (K1.alloc _).trans k2
          clear k2
          go_wp2_with fail
          refine (check_any aL (lL - 1) cL (rL.take (lL - 1)) aS lS cS (rS.take lS) aD lD cD (rD.take lD) _ _ _ _ _ _ _ (Mach.less (h.kept K2) (by omega) (by omega) (by omega))).mono ?_
          rintro e w3 ⟨rfl, k3⟩
          rw [may_less HM.out (by omega) (by omega) (by omega) (by omega), et.out]
          go_wp2
          go_ret
          exact ⟨rfl, HE.out _ (K2.trans k3)⟩
        · go_wp2_with fail
          refine (tanswers_any _).mono ?_
          rintro e w2 ⟨rfl, k2⟩
          obtain ⟨d0, d1, d2, d3, d4, d5, d6, d7, d8⟩ := box_cells k2
          have K2 := (K1.alloc _).trans k2
          clear k2
          go_wp2_with fail
          refine (check_any aL lL cL (rL.take lL) aS lS cS (rS.take lS) aD lD cD (rD.take lD) _ _ _ _ _ _ _ (Mach.less (h.kept K2) (by omega) (by omega) (by omega))).mono ?_
          rintro e w3 ⟨rfl, k3⟩
          rw [may_less HM.out (by omega) (by omega) (by omega) (by omega), et.out]
          go_wp2
          go_ret
          exact ⟨rfl, HE.out _ (K2.trans k3)⟩

end Go.Proofs.Ytcdjgmcepjaldaa.TB
