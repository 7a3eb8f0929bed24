/- What devicesMayBe and sleepsMayBe answer. -/
import Derived.Test.YtcdjgmcepjaldaaLev
namespace Go.Proofs.Ytcdjgmcepjaldaa.TB
open Go.ChangeShapes Go.WideShapes Go.ChangeAt Go.RowKit Go.Proofs.Ytcdjgmcepjaldaa.AR

set_option maxHeartbeats 4000000 in
theorem devices_any (aD : Option Addr) (lD cD : Nat) (rD : List (List Int)) (w : World) (hr : RecAt w 7 aD lD rD) (hl : lD ≤ 9223372036854775807) :
    Calls Try.prog 15 #[.slice aD lD cD] w
      fun e w' => e = .returned (.bool (devsB lD rD)) ∧ Kp w w' := by
  obtain ⟨res, hres⟩ : ∃ res, devsB lD rD = res := ⟨_, rfl⟩
  rw [hres]
  have HR : Hid (devsB lD rD = res) := hres
  clear hres
  by_cases hq : lD ≤ 3
  · have hq' : (lD : Int) ≤ 3 := by omega
    go_enter Try.func15, Try.ntmps15
    go_wp2
    go_loopw [10] (fun i wr => ∃ k : Nat, k ≤ lD ∧ i = .int .i64 k ∧ Hid (∀ j, j < k → awayB (fd rD j 0) (fd rD j 1) (fd rD j 2) (fd rD j 3) (fd rD j 4) (fd rD j 5) (fd rD j 6) = true) ∧ Kp w wr) (fun i _ => lD - (intOf i).toNat)
    case atStart => exact ⟨0, Nat.zero_le _, rfl, fun j hj => by omega, Kp.refl _⟩
    case round =>
      obtain ⟨k, hk, rfl, HL, hkp⟩ := hrel
      by_cases hlt : k < lD
      · have hlt' : (k : Int) < (lD : Int) := by omega
        obtain ⟨b, off, rfl, hb, hc⟩ := fd_at hr hlt hkp
        have c0 := hc 0 (by omega)
        have c1 := hc 1 (by omega)
        have c2 := hc 2 (by omega)
        have c3 := hc 3 (by omega)
        have c4 := hc 4 (by omega)
        have c5 := hc 5 (by omega)
        have c6 := hc 6 (by omega)
        clear hc
        simp only [Nat.add_zero] at c0
        by_cases g1 : awayB (fd rD k 0) (fd rD k 1) (fd rD k 2) (fd rD k 3) (fd rD k 4) (fd rD k 5) (fd rD k 6) = true
        · have HN : Hid (∀ j, j < k + 1 → awayB (fd rD j 0) (fd rD j 1) (fd rD j 2) (fd rD j 3) (fd rD j 4) (fd rD j 5) (fd rD j 6) = true) := fun j hj => by
            by_cases hj' : j < k
            · exact HL.out j hj'
            · obtain rfl : j = k := by omega
              exact g1
          go_wp2_with (first
            | (go_at_call 20; refine (awayMayBe_any _ _ _ _ _ _ _ _).mono ?_; rintro e w1 ⟨rfl, hk1⟩; rw [g1])
            | fail)
          go_roundw
          case rel => exact ⟨k + 1, by omega, by go_num, HN, (hkp.alloc _).trans hk1⟩
          case measure => simp [intOf]; omega
        · have g1' : awayB (fd rD k 0) (fd rD k 1) (fd rD k 2) (fd rD k 3) (fd rD k 4) (fd rD k 5) (fd rD k 6) = false := by simpa using g1
          have HN : Hid (devsB lD rD = false) := devsB_f.2 (fun q => g1 (q.2 k hlt))
          clear g1
          go_wp2_with (first
            | (go_at_call 20; refine (awayMayBe_any _ _ _ _ _ _ _ _).mono ?_; rintro e w1 ⟨rfl, hk1⟩; rw [g1'])
            | fail)
          go_ret
          exact ⟨congrArg (fun b => Ending.returned (Value.bool b)) (HN.out.symm.trans HR.out), (hkp.alloc _).trans hk1⟩
      · have hlt' : ¬ (k : Int) < (lD : Int) := by omega
        have HN : Hid (devsB lD rD = true) := devsB_t.2 ⟨hq, fun i hi => HL.out i (by omega)⟩
        go_wp2
        go_ret
        exact ⟨congrArg (fun b => Ending.returned (Value.bool b)) (HN.out.symm.trans HR.out), hkp⟩
  · have hq' : ¬ (lD : Int) ≤ 3 := by omega
    have HN : Hid (devsB lD rD = false) := devsB_f.2 (fun q => hq q.1)
    clear hq
    go_enter Try.func15, Try.ntmps15
    go_wp2
    go_ret
    exact ⟨congrArg (fun b => Ending.returned (Value.bool b)) (HN.out.symm.trans HR.out), Kp.refl _⟩

set_option maxHeartbeats 4000000 in
theorem sleeps_any (aL : Option Addr) (lL cL : Nat) (aS : Option Addr) (lS cS : Nat) (aD : Option Addr) (lD cD : Nat) (idle crit sw swe sems hor : Int) (rS : List (List Int)) (w : World) (hr : RecAt w 6 aS lS rS) (hl : lS ≤ 9223372036854775807) :
    Calls Try.prog 14 #[pv aL lL cL aS lS cS aD lD cD idle crit sw swe sems hor] w
      fun e w' => e = .returned (.bool (slpsB lS rS idle)) ∧ Kp w w' := by
  obtain ⟨res, hres⟩ : ∃ res, slpsB lS rS idle = res := ⟨_, rfl⟩
  rw [hres]
  have HR : Hid (slpsB lS rS idle = res) := hres
  clear hres
  unfold pv
  by_cases hq : lS ≤ 3
  · have hq' : (lS : Int) ≤ 3 := by omega
    go_enter Try.func14, Try.ntmps14
    go_wp2
    go_loopw [12] (fun i wr => ∃ k : Nat, k ≤ lS ∧ i = .int .i64 k ∧ Hid (∀ j, j < k → awayB idle (fd rS j 0) (fd rS j 1) (fd rS j 2) (fd rS j 3) (fd rS j 4) (fd rS j 5) = true) ∧ Kp w wr ∧ w.heap.size < wr.heap.size ∧ wr.cell? ⟨w.heap.size, 3, none⟩ = some (.int .i64 idle)) (fun i _ => lS - (intOf i).toNat)
    case atStart => exact ⟨0, Nat.zero_le _, rfl, fun j hj => by omega, (Kp.refl _).alloc _, by simp, by simp⟩
    case round =>
      obtain ⟨k, hk, rfl, HL, hkp, hsz, hid⟩ := hrel
      have hne : w.heap.size ≠ wr.heap.size := by omega
      by_cases hlt : k < lS
      · have hlt' : (k : Int) < (lS : Int) := by omega
        obtain ⟨b, off, rfl, hb, hc⟩ := fd_at hr hlt hkp
        have c0 := hc 0 (by omega)
        have c1 := hc 1 (by omega)
        have c2 := hc 2 (by omega)
        have c3 := hc 3 (by omega)
        have c4 := hc 4 (by omega)
        have c5 := hc 5 (by omega)
        clear hc
        simp only [Nat.add_zero] at c0
        by_cases g1 : awayB idle (fd rS k 0) (fd rS k 1) (fd rS k 2) (fd rS k 3) (fd rS k 4) (fd rS k 5) = true
        · have HN : Hid (∀ j, j < k + 1 → awayB idle (fd rS j 0) (fd rS j 1) (fd rS j 2) (fd rS j 3) (fd rS j 4) (fd rS j 5) = true) := fun j hj => by
            by_cases hj' : j < k
            · exact HL.out j hj'
            · obtain rfl : j = k := by omega
              exact g1
          go_wp2_with (first
            | (go_at_call 21; refine (asDevice_any _ _ _ _ _ _ _ _).mono ?_; rintro e w1 ⟨rfl, hk1⟩)
            | (go_at_call 20; refine (awayMayBe_any _ _ _ _ _ _ _ _).mono ?_; rintro e w2 ⟨rfl, hk2⟩; rw [g1])
            | fail)
          go_roundw
          case rel =>
            have hall := ((Kp.refl wr).alloc _).trans (hk1.trans hk2)
            exact ⟨k + 1, by omega, by go_num, HN, hkp.trans hall, Nat.lt_of_lt_of_le hsz hall.size, by rw [hall.cell (by exact hsz)]; exact hid⟩
          case measure => simp [intOf]; omega
        · have g1' : awayB idle (fd rS k 0) (fd rS k 1) (fd rS k 2) (fd rS k 3) (fd rS k 4) (fd rS k 5) = false := by simpa using g1
          have HN : Hid (slpsB lS rS idle = false) := slpsB_f.2 (fun q => g1 (q.2 k hlt))
          clear g1
          go_wp2_with (first
            | (go_at_call 21; refine (asDevice_any _ _ _ _ _ _ _ _).mono ?_; rintro e w1 ⟨rfl, hk1⟩)
            | (go_at_call 20; refine (awayMayBe_any _ _ _ _ _ _ _ _).mono ?_; rintro e w2 ⟨rfl, hk2⟩; rw [g1'])
            | fail)
          go_ret
          exact ⟨congrArg (fun b => Ending.returned (Value.bool b)) (HN.out.symm.trans HR.out), (hkp.alloc _).trans (hk1.trans hk2)⟩
      · have hlt' : ¬ (k : Int) < (lS : Int) := by omega
        have HN : Hid (slpsB lS rS idle = true) := slpsB_t.2 ⟨hq, fun i hi => HL.out i (by omega)⟩
        go_wp2
        go_ret
        exact ⟨congrArg (fun b => Ending.returned (Value.bool b)) (HN.out.symm.trans HR.out), hkp⟩
  · have hq' : ¬ (lS : Int) ≤ 3 := by omega
    have HN : Hid (slpsB lS rS idle = false) := slpsB_f.2 (fun q => hq q.1)
    clear hq
    go_enter Try.func14, Try.ntmps14
    go_wp2
    go_ret
    exact ⟨congrArg (fun b => Ending.returned (Value.bool b)) (HN.out.symm.trans HR.out), (Kp.refl _).alloc _⟩

end Go.Proofs.Ytcdjgmcepjaldaa.TB
