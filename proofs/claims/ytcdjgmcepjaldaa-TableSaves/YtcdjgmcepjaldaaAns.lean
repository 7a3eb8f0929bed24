/- What the statements ask of every program: that it answers at all. And TableChecks. -/
import Derived.Test.YtcdjgmcepjaldaaTbl
namespace Go.Proofs.Ytcdjgmcepjaldaa.TB
open Go.ChangeShapes Go.WideShapes Go.ChangeAt Go.RowKit Go.Proofs.Ytcdjgmcepjaldaa.AR

theorem rec_nil (w : World) (k : Nat) (ao : Option Addr) : RecAt w k ao 0 [] := ⟨rfl, fun r hr => by simp at hr, .inl rfl⟩

theorem ans_yes : mayB 1 [[1, 0]] 0 [] 0 [] 0 0 0 0 0 1 = true := by
  refine mayB_t.2 ⟨⟨by omega, by omega, by omega, by omega, by omega, by omega⟩, ⟨by omega, fun i hi => ?_⟩, fun i hi h => by omega, ⟨by omega, fun i hi => by omega⟩, ⟨by omega, fun i hi => by omega⟩⟩
  obtain rfl : i = 0 := by omega
  simp [Lev, ahd, fd]

theorem ans_no : mayB 1 [[1, 0]] 0 [] 0 [] 0 0 0 0 0 0 = false := may_f (fun q => by have := q.1.2.2.2.2.2.1; omega)

theorem one_level {w w' : World} (k : Kp (w.alloc (.cells #[.int .i64 1, .int .i64 0] 38)) w') : Mach w' (some ⟨w.heap.size, 0, none⟩) 1 [[1, 0]] none 0 [] none 0 [] := by
  refine ⟨⟨rfl, ?_, .inr ⟨w.heap.size, 0, rfl, ?_, ?_⟩⟩, rec_nil _ _ _, rec_nil _ _ _, by omega, by omega, by omega⟩
  · intro r hr
    simp at hr
    subst hr
    refine ⟨rfl, fun y hy => ?_⟩
    simp at hy
    unfold I64
    omega
  · have := k.size
    simp at this
    omega
  · intro i j hi hj
    obtain rfl : i = 0 := by omega
    rw [k.cell (by simp)]
    match j, hj with
    | 0, _ => simp
    | 1, _ => simp

set_option maxHeartbeats 4000000 in
theorem tanswers_any (w : World) :
    Calls Try.prog 9 #[] w fun e w' => e = .returned (.bool true) ∧ Kp w w' := by
  have hy : Hid (erc (mayB 1 [[1, 0]] 0 [] 0 [] 0 0 0 0 0 1) = 0) := by show _ = _; rw [ans_yes]; rfl
  have hn : Hid (erc (mayB 1 [[1, 0]] 0 [] 0 [] 0 0 0 0 0 0) = 2) := by show _ = _; rw [ans_no]; rfl
  have HA : Hid (∀ o, Kp w (w.alloc o)) := fun o => (Kp.refl w).alloc o
  have HB : Hid (∀ o o1 o2, Kp (w.alloc o) (((w.alloc o).alloc o1).alloc o2)) := fun o o1 o2 => ((Kp.refl _).alloc o1).alloc o2
  go_enter Try.func9, Try.ntmps9
  go_wp2_with fail
  refine (check_any (some ⟨w.heap.size, 0, none⟩) 1 1 [[1, 0]] none 0 0 [] none 0 0 [] 0 0 0 0 0 1 _ (one_level (HB.out _ _ _))).mono ?_
  rintro e w1 ⟨rfl, k1⟩
  rw [hy.out]
  obtain ⟨d0, d1, d2, d3, d4, d5, d6, d7, d8⟩ := box_cells k1
  simp only [World.size_alloc] at d0 d1 d2 d3 d4 d5 d6 d7 d8
  have k2 := (HB.out _ _ _).trans k1
  have K2 := (HA.out _).trans k2
  clear k1
  go_wp2_with fail
  refine (check_any (some ⟨w.heap.size, 0, none⟩) 1 1 [[1, 0]] none 0 0 [] none 0 0 [] 0 0 0 0 0 0 _ (one_level k2)).mono ?_
  rintro e w3 ⟨rfl, k3⟩
  rw [hn.out]
  go_wp2
  go_ret
  exact ⟨rfl, K2.trans k3⟩

set_option maxHeartbeats 4000000 in
theorem tableChecks_walk (aL : Option Addr) (lL cL : Nat) (rL : List (List Int)) (aS : Option Addr) (lS cS : Nat) (rS : List (List Int)) (aD : Option Addr) (lD cD : Nat) (rD : List (List Int)) (idle crit sw swe sems hor : Int) (w : World)
    (h : Mach w aL lL rL aS lS rS aD lD rD) :
    Calls Try.prog 3 #[pv aL lL cL aS lS cS aD lD cD idle crit sw swe sems hor] w
      fun e w' => e = .returned (.bool true) ∧ Below w.heap.size w w' := by
  have HB : Hid (∀ o, Kp w (w.alloc o)) := fun o => (Kp.refl w).alloc o
  have HE : Hid (∀ w', Kp w w' → Below w.heap.size w w') := fun w' q => q
  have HC := fun w' (k : Kp w w') => check_any aL lL cL rL aS lS cS rS aD lD cD rD idle crit sw swe sems hor w' (h.kept k)
  have HT := fun w' (k : Kp w w') => reftable_any aL lL cL rL aS lS cS rS aD lD cD rD idle crit sw swe sems hor w' (h.kept k)
  have HC' : Hid (∀ w', Kp w w' → Calls Try.prog 8 #[pv aL lL cL aS lS cS aD lD cD idle crit sw swe sems hor] w' fun e w'' => e = .returned (.int .i64 (erc (mayB lL rL lS rS lD rD idle crit sw swe sems hor))) ∧ Kp w' w'') := HC
  have HT' : Hid (∀ w', Kp w w' → Calls Try.prog 10 #[pv aL lL cL aS lS cS aD lD cD idle crit sw swe sems hor] w' fun e w'' => e = .returned (.bool (mayB lL rL lS rS lD rD idle crit sw swe sems hor)) ∧ Kp w' w'') := HT
  clear HC HT
  generalize mayB lL rL lS rS lD rD idle crit sw swe sems hor = res at HC' HT'
  unfold pv at *
  cases res with
  | true =>
    have er : Hid (erc true = 0) := rfl
    go_enter Try.func3, Try.ntmps3
    go_wp2_with fail
    refine (HC'.out _ (HB.out _)).mono ?_
    rintro e w1 ⟨rfl, k1⟩
    rw [er.out]
    go_wp2_with fail
    refine (tanswers_any _).mono ?_
    rintro e w2 ⟨rfl, k2⟩
    obtain ⟨d0, d1, d2, d3, d4, d5, d6, d7, d8⟩ := box_cells (k1.trans k2)
    have K2 := (HB.out _).trans (k1.trans k2)
    clear k1 k2
    go_wp2_with fail
    refine (HT'.out _ K2).mono ?_
    rintro e w3 ⟨rfl, k3⟩
    go_wp2
    go_ret
    exact ⟨rfl, HE.out _ (K2.trans k3)⟩
  | false =>
    have er : Hid (erc false = 2) := rfl
    go_enter Try.func3, Try.ntmps3
    go_wp2_with fail
    refine (HC'.out _ (HB.out _)).mono ?_
    rintro e w1 ⟨rfl, k1⟩
    rw [er.out]
    go_wp2_with fail
    refine (tanswers_any _).mono ?_
    rintro e w2 ⟨rfl, k2⟩
    obtain ⟨d0, d1, d2, d3, d4, d5, d6, d7, d8⟩ := box_cells (k1.trans k2)
    have K2 := (HB.out _).trans (k1.trans k2)
    clear k1 k2
    go_wp2_with fail
    refine (HT'.out _ K2).mono ?_
    rintro e w3 ⟨rfl, k3⟩
    go_wp2
    go_ret
    exact ⟨rfl, HE.out _ (K2.trans k3)⟩

end Go.Proofs.Ytcdjgmcepjaldaa.TB
